/-
  A region that draws its order, walked order by order: each order is a list of operations, and a walk of each list serves. Inside a fence and in the open.
-/
import Derived.Test.YtbnkecmhmcligaaDoorMQ06
namespace Go.Proofs.YtbnkecmhmcligaaDoor
set_option linter.unusedVariables false
set_option linter.unusedSimpArgs false
set_option maxRecDepth 20000
open Go.RowKit Go.Shelf

/-- All orders that may be drawn from here on. -/
def ords (ops : Array Oper) : Nat → Array Bool → List (List Nat)
  | 0, _ => [[]]
  | f + 1, listed =>
    match Region.ready .any ops listed with
    | [] => [[]]
    | r :: rs => (r :: rs).flatMap fun i => (ords ops f (listed.setIfInBounds i true)).map (i :: ·)

theorem linearise_mem (ops : Array Oper) : ∀ (fuel t : Nat) (listed : Array Bool) (acc : List Nat), ∃ L ∈ ords ops fuel listed, Region.linearise.go .any ops fuel t listed acc = acc.reverse ++ L := by
  intro fuel
  induction fuel with
  | zero => intro t listed acc; exact ⟨[], by simp [ords], by simp [Region.linearise.go]⟩
  | succ fuel ih =>
    intro t listed acc
    simp only [Region.linearise.go]
    change ∃ L ∈ ords ops (fuel + 1) listed, (match (Region.ready .any ops listed)[t % (Region.ready .any ops listed).length]? with
      | some i => Region.linearise.go .any ops fuel (t / (Region.ready .any ops listed).length) (listed.setIfInBounds i true) (i :: acc)
      | none => acc.reverse) = acc.reverse ++ L
    cases hi : (Region.ready .any ops listed)[t % (Region.ready .any ops listed).length]? with
    | none =>
      have hnil : Region.ready .any ops listed = [] := by
        cases hr : Region.ready .any ops listed with
        | nil => rfl
        | cons x xs =>
          rw [hr] at hi
          have hlt : t % (x :: xs).length < (x :: xs).length := Nat.mod_lt _ (by simp)
          rw [List.getElem?_eq_getElem hlt] at hi
          cases hi
      exact ⟨[], by simp [ords, hnil], by simp⟩
    | some i =>
      have hmem : i ∈ Region.ready .any ops listed := List.mem_of_getElem? hi
      obtain ⟨L, hL, he⟩ := ih (t / (Region.ready .any ops listed).length) (listed.setIfInBounds i true) (i :: acc)
      refine ⟨i :: L, ?_, by simp only [he]; simp⟩
      cases hr : Region.ready .any ops listed with
      | nil => rw [hr] at hmem; cases hmem
      | cons x xs =>
        rw [hr] at hmem
        simp only [ords, hr]
        exact List.mem_flatMap.2 ⟨i, hmem, List.mem_map.2 ⟨L, hL, rfl⟩⟩

theorem wpOpsIn_of_list {F : Fence} {n : Nat} {P : Program} {ops : Array Oper} {Q : Exit → Act → World → Prop} : ∀ (L : List Nat) (a : Act) (w : World),
    wpListIn F n P ops Q (L.filterMap fun i => ops[i]?) a w → wpOpsIn F n P ops Q L a w := by
  intro L
  induction L with
  | nil => intro a w h; exact h
  | cons i L ih =>
    intro a w h
    cases ho : ops[i]? with
    | none =>
      rw [List.filterMap_cons, ho] at h
      simp only [wpOpsIn, ho]
      exact ih a w h
    | some o =>
      rw [List.filterMap_cons, ho] at h
      simp only [wpOpsIn, ho]
      simp only [wpListIn] at h
      split
      · rename_i hw
        rw [if_pos hw] at h
        exact Oper.wpIn_mono (fun a w h => ih a w h) h
      · rename_i hw
        rw [if_neg hw] at h
        exact ⟨h.1, ih _ _ h.2⟩

theorem wpOps_of_list {P : Program} {ops : Array Oper} {Q : Exit → Act → World → Prop} : ∀ (L : List Nat) (a : Act) (w : World),
    wpList P ops Q (L.filterMap fun i => ops[i]?) a w → wpOps P ops Q L a w := by
  intro L
  induction L with
  | nil => intro a w h; exact h
  | cons i L ih =>
    intro a w h
    cases ho : ops[i]? with
    | none =>
      rw [List.filterMap_cons, ho] at h
      simp only [wpOps, ho]
      exact ih a w h
    | some o =>
      rw [List.filterMap_cons, ho] at h
      simp only [wpOps, ho]
      simp only [wpList] at h
      split
      · rename_i hw
        rw [if_pos hw] at h
        exact h.imp (Oper.wp_mono (fun a w h => ih a w h)) id
      · rename_i hw
        rw [if_neg hw] at h
        exact ih _ _ h

def AllOrd (f : List Nat → Prop) : List (List Nat) → Prop
  | [] => True
  | L :: r => f L ∧ AllOrd f r
theorem AllOrd.mem {f : List Nat → Prop} : ∀ {l : List (List Nat)}, AllOrd f l → ∀ L ∈ l, f L
  | [], _, _, h => by cases h
  | _ :: _, h, L, hL => by
    rcases List.mem_cons.1 hL with rfl | hL
    · exact h.1
    · exact AllOrd.mem h.2 L hL

theorem wpIn_region_orders {F : Fence} {n : Nat} {P : Program} {id : Nat} {ops : Array Oper} {Q : Exit → Act → World → Prop} {a : Act} {w : World} (os : List (List Nat))
    (hm : P.follows .mixedOrders = true) (hos : ords ops ops.size (Array.replicate ops.size false) = os)
    (h : AllOrd (fun L => wpListIn F n P ops Q (L.filterMap fun i => ops[i]?) a w.drew) os) : (Code.region id ops true).wpIn F n P Q a w :=
  wpIn_region_draw fun t => by
    simp only [Region.schedule, hm, Bool.true_or, if_true, Region.linearise]
    obtain ⟨L, hL, he⟩ := linearise_mem ops ops.size t (Array.replicate ops.size false) []
    rw [he, List.reverse_nil, List.nil_append]
    rw [hos] at hL
    exact wpOpsIn_of_list L a _ (h.mem L hL)

theorem wp_region_orders {P : Program} {id : Nat} {ops : Array Oper} {Q : Exit → Act → World → Prop} {a : Act} {w : World} (os : List (List Nat))
    (hm : P.follows .mixedOrders = true) (hos : ords ops ops.size (Array.replicate ops.size false) = os)
    (h : AllOrd (fun L => wpList P ops Q (L.filterMap fun i => ops[i]?) a w.drew) os) : (Code.region id ops true).wp P Q a w :=
  wp_region_draw fun t => by
    simp only [Region.schedule, hm, Bool.true_or, if_true, Region.linearise]
    obtain ⟨L, hL, he⟩ := linearise_mem ops ops.size t (Array.replicate ops.size false) []
    rw [he, List.reverse_nil, List.nil_append]
    rw [hos] at hL
    exact wpOps_of_list L a _ (h.mem L hL)

theorem follows_mixed : Tryd.prog.follows .mixedOrders = true := by kernel_rfl

end Go.Proofs.YtbnkecmhmcligaaDoor

/-
  Slices of one-cell elements that the call itself owns, whatever the element; boxed variables that hold them.
-/
namespace Go.Proofs.YtbnkecmhmcligaaDoor
set_option linter.unusedVariables false
set_option linter.unusedSimpArgs false
set_option maxRecDepth 20000
open Go.RowKit Go.Shelf

/-- A slice type S of elements of type T, one cell each. -/
structure ElemT (T S : TypeId) (bytes : Nat) : Prop where
  ht : Tryd.prog.underlying S = some (.slice T)
  info : ∃ i z, Tryd.prog.info? T = some i ∧ i.zero = some z ∧ i.size = 1 ∧ i.bytes = bytes ∧ z.cells.size = 1

def OwnG {α : Type} (T : TypeId) (enc : α → Value) (W : World) (base : Nat) (v : Value) (xs : List α) : Prop := W.ownsRow base T 1 v xs.length (xs.map enc)
section
variable {α : Type} {T S : TypeId} {enc : α → Value}
theorem OwnG.alloc {W : World} {base : Nat} {v : Value} {xs : List α} (h : OwnG T enc W base v xs) (o : Obj) : OwnG T enc (W.alloc o) base v xs := World.ownsRow.alloc h o
theorem OwnG.nil (W : World) (base : Nat) : OwnG T enc W base (.slice none 0 0) [] := World.ownsRow_nil _ _ _ _
theorem OwnG.base_le {W : World} {base : Nat} {v : Value} {xs : List α} (h : OwnG T enc W base v xs) : ∀ k, v.ownBlock = some k → base ≤ k := by
  intro k hk
  rcases h.2 with ⟨rfl, _⟩ | ⟨g, cap, cur, rfl, hb, _⟩
  · simp [Value.ownBlock] at hk
  · obtain rfl : g = k := by simpa [Value.ownBlock] using hk
    exact hb
theorem OwnG.shape {W : World} {base : Nat} {v : Value} {xs : List α} (h : OwnG T enc W base v xs) : ∃ a c, v = .slice a xs.length c := by
  rcases h.2 with ⟨rfl, h0⟩ | ⟨g, cap, cur, rfl, _⟩
  · exact ⟨none, 0, by rw [h0]⟩
  · exact ⟨_, _, rfl⟩
theorem OwnG.kept {W W' : World} {row : Option Nat} {base : Nat} {v : Value} {xs : List α} (h : OwnG T enc W base v xs) (hg : W.grownBy W' row) (hne : v.ownBlock = none ∨ v.ownBlock ≠ row) : OwnG T enc W' base v xs := World.ownsRow.kept h hg hne
theorem OwnG.lt {W : World} {base : Nat} {v : Value} {xs : List α} (h : OwnG T enc W base v xs) : ∀ k, v.ownBlock = some k → k < W.heap.size := by
  intro k hk
  rcases h.2 with ⟨rfl, _⟩ | ⟨g, cap, cur, rfl, hb, hg, _⟩
  · simp [Value.ownBlock] at hk
  · obtain rfl : g = k := by simpa [Value.ownBlock] using hk
    exact (Array.getElem?_eq_some_iff.1 hg).1
/-- The cells of such a row. -/
theorem OwnG.cells {W : World} {base : Nat} {a : Option Addr} {n c : Nat} {xs : List α} (h : OwnG T enc W base (.slice a n c) xs) (hne : xs ≠ []) :
    ∃ g, a = some ⟨g, 0, none⟩ ∧ base ≤ g ∧ g < W.heap.size ∧ ∀ j (hj : j < xs.length), W.cell? ⟨g, j, none⟩ = some (enc xs[j]) := by
  obtain ⟨_, h2⟩ := h
  rcases h2 with ⟨e, h0⟩ | ⟨g, cap, cur, e, hb, hg, hc, hm, hsz, htk⟩
  · exact absurd (List.eq_nil_of_length_eq_zero h0) hne
  · cases e
    refine ⟨g, rfl, hb, (Array.getElem?_eq_some_iff.1 hg).1, fun j hj => ?_⟩
    have h3 : cur.toList[j]? = some (enc xs[j]) := by
      have : (cur.toList.take (xs.length * 1))[j]? = some (enc xs[j]) := by rw [htk]; simp [hj]
      rw [List.getElem?_take] at this
      rw [if_pos (by omega)] at this
      exact this
    simp only [World.cell?, hg]
    simpa using h3
theorem OwnG.weaken {W : World} {base b2 : Nat} {v : Value} {xs : List α} (h : OwnG T enc W base v xs) (hb : b2 ≤ base) : OwnG T enc W b2 v xs := by
  refine ⟨h.1, ?_⟩
  rcases h.2 with hn | ⟨g, cap, cur, e, hg, rest⟩
  · exact .inl hn
  · exact .inr ⟨g, cap, cur, e, by omega, rest⟩
theorem OwnG.ne_of {W : World} {base : Nat} {v : Value} {xs : List α} (h : OwnG T enc W base v xs) {D : Nat} {o : Obj} (hD : W.heap[D]? = some o) (ho : o.isCells = false) : some D ≠ v.ownBlock := by
  rcases h.2 with ⟨rfl, _⟩ | ⟨g, cap, cur, rfl, _, hg, _⟩
  · simp [Value.ownBlock]
  · intro e
    obtain rfl : D = g := by simpa [Value.ownBlock] using e
    rw [hg] at hD; cases hD; cases ho
theorem OwnG.putObj {W : World} {base : Nat} {v : Value} {xs : List α} (h : OwnG T enc W base v xs) {l : Nat} {o : Obj} (o' : Obj) (hl : W.heap[l]? = some o) (ho : o.isCells = false) : OwnG T enc (W.putObj l o') base v xs := ownsRow_putObj h o' hl ho
theorem cells_oneL (l : List Value) (h : ∀ u ∈ l, u.oneCell' = true) : ∀ u ∈ l, u.oneCell' = true := h

theorem wpl_append_g {ops : Array Oper} {rest : List Oper} {o : Oper} {a : Act} {Q : Exit → Act → World → Prop} (W : World) (hgd : o.guard = none) (s x : Operand) {bytes : Nat} (hE : ElemT T S bytes)
    (ho : o.op = .call { callee := .builtin .append, args := #[s, x], argTypes := #[S, S] }) (hone : ∀ x : α, (enc x).oneCell' = true)
    (base : Nat) (v : Value) (xs : List α) (hs : a.eval s = v) (hown : OwnG T enc W base v xs)
    (cells : List Value) (news : List α) (hcells : cells = news.map enc) (m c : Nat) (hx : a.eval x = .slice (some ⟨W.heap.size, 0, none⟩) m c) (hm : m = news.length)
    (hbase : base ≤ W.heap.size) (hk : xs.length + news.length ≤ maxLen) (hk2 : (xs.length + news.length) * bytes ≤ 140737488355328)
    (h : ∀ v' w', OwnG T enc w' base v' (xs ++ news) → W.grownBy w' v.ownBlock → wpList Tryd.prog ops Q rest (a.put o.dst v') w') :
    wpList Tryd.prog ops Q (o :: rest) a (W.alloc (.cells cells.toArray T)) := by
  subst hcells hm
  obtain ⟨ht, i, z, hi, hz, hz1, hz2, hzc⟩ := hE
  refine wpList_append_own _ hgd s x S ho base T i z 1 bytes ht hi hz hz1 hz2 hzc (by decide) v xs.length (xs.map enc) hs (hown.alloc _) ⟨W.heap.size, 0, none⟩ news.length c (news.map enc) hx (by simp) (cells_new W _ _) (by intro u hu; obtain ⟨y, _, rfl⟩ := List.mem_map.1 hu; exact hone y) hk hk2 (by simp; omega) ?_
  intro v' w' h1 h2 _
  refine h v' w' ?_ (grownBy_of_alloc h2)
  unfold OwnG
  rw [List.length_append, List.map_append]
  exact h1

theorem wplIn_append_g {F : Fence} {n : Nat} {ops : Array Oper} {rest : List Oper} {o : Oper} {a : Act} {Q : Exit → Act → World → Prop} (W : World) (hgd : o.guard = none) (s x : Operand) {bytes : Nat} (hE : ElemT T S bytes)
    (ho : o.op = .call { callee := .builtin .append, args := #[s, x], argTypes := #[S, S] }) (hone : ∀ x : α, (enc x).oneCell' = true)
    (base : Nat) (v : Value) (xs : List α) (hs : a.eval s = v) (hown : OwnG T enc W base v xs)
    (cells : List Value) (news : List α) (hcells : cells = news.map enc) (m c : Nat) (hx : a.eval x = .slice (some ⟨W.heap.size, 0, none⟩) m c) (hm : m = news.length)
    (hbase : base ≤ W.heap.size) (hk : xs.length + news.length ≤ maxLen) (hk2 : (xs.length + news.length) * bytes ≤ 140737488355328)
    (h : ∀ v' w', OwnG T enc w' base v' (xs ++ news) → W.grownBy w' v.ownBlock → wpListIn F n Tryd.prog ops Q rest (a.put o.dst v') w') :
    wpListIn F n Tryd.prog ops Q (o :: rest) a (W.alloc (.cells cells.toArray T)) := by
  subst hcells hm
  obtain ⟨ht, i, z, hi, hz, hz1, hz2, hzc⟩ := hE
  refine wpListIn_append_own _ hgd s x S ho base T i z 1 bytes ht hi hz hz1 hz2 hzc (by decide) v xs.length (xs.map enc) hs (hown.alloc _) ⟨W.heap.size, 0, none⟩ news.length c (news.map enc) hx (by simp) (cells_new W _ _) (by intro u hu; obtain ⟨y, _, rfl⟩ := List.mem_map.1 hu; exact hone y) hk hk2 (by simp; omega) ?_
  intro v' w' h1 h2 _
  refine h v' w' ?_ (grownBy_of_alloc h2)
  unfold OwnG
  rw [List.length_append, List.map_append]
  exact h1

/-- A boxed variable of such a slice. -/
def GBox (T S : TypeId) (enc : α → Value) (B base : Nat) (xs : List α) (W : World) : Prop := ∃ v, Boxed W B S v ∧ OwnG T enc W base v xs
theorem gBox_own {β : Type} (B base : Nat) (f : β → List α) : Own (fun pre W => GBox T S enc B base (f pre) W) := fun s W W' row hs hg hr => by
  obtain ⟨v, h1, h2⟩ := hs
  obtain ⟨v', g1, g2, _⟩ := holdsRow_own base B S T 1 (fun s : β => (f s).length) (fun s => (f s).map enc) (fun _ _ => True) s W W' row ⟨v, h1, h2, trivial⟩ hg hr
  exact ⟨v', g1, g2⟩
theorem GBox.alloc {B base : Nat} {xs : List α} {W : World} (h : GBox T S enc B base xs W) (o : Obj) : GBox T S enc B base xs (W.alloc o) := by
  obtain ⟨v, h1, h2⟩ := h; exact ⟨v, h1.alloc o, h2.alloc o⟩

/-- Behind 'out = append(out, ..)' or 'out = f(out, ..)'. -/
theorem gboxed_appends {W w1 : World} {B base : Nat} {v v' : Value} {xs ys : List α} (hST : S ≠ T) (hv : Boxed W B S v) (hown : OwnG T enc W base v xs) (hbB : base ≤ B) (hown' : OwnG T enc w1 base v' ys) (hg : W.grownBy w1 v.ownBlock) :
    Boxed w1 B S v ∧ GBox T S enc B base ys (w1.setCell ⟨B, 0, none⟩ v') ∧ KeepsOthers W (w1.setCell ⟨B, 0, none⟩ v') ∧ Below base W (w1.setCell ⟨B, 0, none⟩ v') ∧ (∀ b t, t ≠ T → b < W.heap.size → b ≠ B → (∀ u, Boxed W b t u → KeepB b W (w1.setCell ⟨B, 0, none⟩ v'))) := by
  have hv1 : Boxed w1 B S v := hv.kept hg (hv.not_row hST hown)
  refine ⟨hv1, ⟨v', hv1.set v', World.ownsRow.kept hown' (grownBy_setCell' w1 B v') (.inr (hv1.not_row hST hown').symm)⟩, ?_, ?_, ?_⟩
  · refine (KeepsOthers.of_grownBy hg fun j o ej hj => ?_).trans (KeepsOthers.setCell _ _ _)
    rcases hown.2 with ⟨rfl, _⟩ | ⟨g, cap, cur, rfl, _, hgb, _⟩
    · simp [Value.ownBlock] at ej
    · obtain rfl : g = j := by simpa [Value.ownBlock] using ej
      rw [hgb] at hj; cases hj; rfl
  · have hle : base ≤ W.heap.size := Nat.le_trans hbB (Nat.le_of_lt hv.lt)
    exact ((Below.refl base W).grown hg hle hown.base_le).setCell (p := ⟨B, 0, none⟩) hbB v'
  · intro b t hT hb hne u hu
    exact (KeepB.of_grownBy hg hb (hu.not_row hT hown)).trans (KeepB.setCell _ _ hne)
/-- .. where the row lies beyond the boxes. -/
theorem gboxed_appends2 {W w1 : World} {B base n₀ : Nat} {v v' : Value} {xs ys : List α} (hST : S ≠ T) (hv : Boxed W B S v) (hown : OwnG T enc W base v xs) (hn : n₀ ≤ base) (hnB : n₀ ≤ B) (hbase : base ≤ W.heap.size) (hown' : OwnG T enc w1 base v' ys) (hg : W.grownBy w1 v.ownBlock) :
    Boxed w1 B S v ∧ GBox T S enc B base ys (w1.setCell ⟨B, 0, none⟩ v') ∧ KeepsOthers W (w1.setCell ⟨B, 0, none⟩ v') ∧ Below n₀ W (w1.setCell ⟨B, 0, none⟩ v') ∧ (∀ b, b < base → b ≠ B → KeepB b W (w1.setCell ⟨B, 0, none⟩ v')) := by
  have hv1 : Boxed w1 B S v := hv.kept hg (hv.not_row hST hown)
  refine ⟨hv1, ⟨v', hv1.set v', World.ownsRow.kept hown' (grownBy_setCell' w1 B v') (.inr (hv1.not_row hST hown').symm)⟩, ?_, ?_, ?_⟩
  · refine (KeepsOthers.of_grownBy hg fun j o ej hj => ?_).trans (KeepsOthers.setCell _ _ _)
    rcases hown.2 with ⟨rfl, _⟩ | ⟨g, cap, cur, rfl, _, hgb, _⟩
    · simp [Value.ownBlock] at ej
    · obtain rfl : g = j := by simpa [Value.ownBlock] using ej
      rw [hgb] at hj; cases hj; rfl
  · exact ((Below.refl n₀ W).grown hg (Nat.le_trans hn hbase) (fun k e => Nat.le_trans hn (hown.base_le k e))).setCell (p := ⟨B, 0, none⟩) hnB v'
  · intro b hb hne
    exact (KeepB.of_grownBy hg (by omega) (fun e => by have := hown.base_le b e.symm; omega)).trans (KeepB.setCell _ _ hne)
/-- A store into another box leaves a row of the call's own as it is. -/
theorem GBox.setOther {B base : Nat} {xs : List α} {W : World} (h : GBox T S enc B base xs W) {C : Nat} {t : TypeId} {u : Value} (hC : Boxed W C t u) (ht : t ≠ T) (hne : B ≠ C) (x : Value) : GBox T S enc B base xs (W.setCell ⟨C, 0, none⟩ x) := by
  obtain ⟨v, h1, h2⟩ := h
  exact ⟨v, h1.kept (grownBy_setCell' W C x) (by simpa using hne), OwnG.kept h2 (grownBy_setCell' W C x) (.inr (fun e => hC.not_row ht h2 e.symm))⟩
end

/-- A string as a list of bytes. -/
def strV (l : List UInt8) : Value := .string ⟨l.toArray⟩
theorem strV_one (l : List UInt8) : (strV l).oneCell' = true := rfl
theorem elemStr : ElemT 9 35 16 := ⟨Tryd.underlying35, _, _, rfl, rfl, rfl, rfl, rfl⟩
theorem strV_of (s : ByteArray) : strV s.data.toList = .string s := by unfold strV; simp
theorem strV_eq {s : ByteArray} {l : List UInt8} (h : s.data.toList = l) : Value.string s = strV l := by rw [← h, strV_of]
theorem extract_data (s : ByteArray) (a b : Nat) (_hb : b ≤ s.size) : (s.extract a b).data.toList = (s.data.toList.take b).drop a := by
  simp [ByteArray.data_extract, List.drop_take]

end Go.Proofs.YtbnkecmhmcligaaDoor

