import Derived.Laws.Rows
import Derived.Lib.IndexBytes
import Derived.Test.YtnpnfajgphpabaaGreatMQ06
namespace Go.Proofs.YtnpnfajgphpabaaGreat
set_option maxRecDepth 20000
open Go.RowKit Go.Shelf
structure ElemT (T S : TypeId) (bytes : Nat) : Prop where
 ht : Tryz.prog.underlying S = some (.slice T)
 info : ∃ i z, Tryz.prog.info? T = some i ∧ i.zero = some z ∧ i.size = 1 ∧ i.bytes = bytes ∧ z.cells.size = 1
def OwnG {α : Type} (T : TypeId) (enc : α → Value) (W : World) (base : Nat) (v : Value) (xs : List α) : Prop := W.ownsRow base T 1 v xs.length (xs.map enc)
section
variable {α : Type} {T S : TypeId} {enc : α → Value}
theorem OwnG.alloc {W : World} {base : Nat} {v : Value} {xs : List α} (h : OwnG T enc W base v xs) (o : Obj) : OwnG T enc (W.alloc o) base v xs := World.ownsRow.alloc h o
theorem OwnG.nil (W : World) (base : Nat) : OwnG T enc W base (.slice none 0 0) [] := World.ownsRow_nil _ _ _ _
theorem OwnG.base_le {W : World} {base : Nat} {v : Value} {xs : List α} (h : OwnG T enc W base v xs) : ∀ k, v.ownBlock = some k → base ≤ k := by
 intro k hk
 rcases h.2 with ⟨rfl, _⟩ | ⟨g, cap, cur, rfl, hb, _⟩
 ·simp [Value.ownBlock] at hk
 ·obtain rfl : g = k := by simpa [Value.ownBlock] using hk
  exact hb
theorem OwnG.shape {W : World} {base : Nat} {v : Value} {xs : List α} (h : OwnG T enc W base v xs) : ∃ a c, v = .slice a xs.length c := by
 rcases h.2 with ⟨rfl, h0⟩ | ⟨g, cap, cur, rfl, _⟩
 ·exact ⟨none, 0, by rw [h0]⟩
 ·exact ⟨_, _, rfl⟩
theorem OwnG.kept {W W' : World} {row : Option Nat} {base : Nat} {v : Value} {xs : List α} (h : OwnG T enc W base v xs) (hg : W.grownBy W' row) (hne : v.ownBlock = none ∨ v.ownBlock ≠ row) : OwnG T enc W' base v xs := World.ownsRow.kept h hg hne
theorem OwnG.lt {W : World} {base : Nat} {v : Value} {xs : List α} (h : OwnG T enc W base v xs) : ∀ k, v.ownBlock = some k → k < W.heap.size := by
 intro k hk
 rcases h.2 with ⟨rfl, _⟩ | ⟨g, cap, cur, rfl, hb, hg, _⟩
 ·simp [Value.ownBlock] at hk
 ·obtain rfl : g = k := by simpa [Value.ownBlock] using hk
  exact (Array.getElem?_eq_some_iff.1 hg).1
theorem OwnG.cells {W : World} {base : Nat} {a : Option Addr} {n c : Nat} {xs : List α} (h : OwnG T enc W base (.slice a n c) xs) (hne : xs ≠ []) :
 ∃ g, a = some ⟨g, 0, none⟩ ∧ base ≤ g ∧ g < W.heap.size ∧ ∀ j (hj : j < xs.length), W.cell? ⟨g, j, none⟩ = some (enc xs[j]) := by
 obtain ⟨_, h2⟩ := h
 rcases h2 with ⟨e, h0⟩ | ⟨g, cap, cur, e, hb, hg, hc, hm, hsz, htk⟩
 ·exact absurd (List.eq_nil_of_length_eq_zero h0) hne
 ·cases e
  refine ⟨g, rfl, hb, (Array.getElem?_eq_some_iff.1 hg).1, fun j hj => ?_⟩
  have h3 : cur.toList[j]? = some (enc xs[j]) := by
   have : (cur.toList.take (xs.length * 1))[j]? = some (enc xs[j]) := by rw [htk]; simp [hj]
   rw [List.getElem?_take] at this
   rw [if_pos (by omega)] at this
   exact this
  simp only [World.cell?, hg]
  simpa using h3
theorem OwnG.weaken {W : World} {base b2 : Nat} {v : Value} {xs : List α} (h : OwnG T enc W base v xs) (hb : b2 ≤ base) : OwnG T enc W b2 v xs := by
 refine ⟨h.1, ?_⟩
 rcases h.2 with hn | ⟨g, cap, cur, e, hg, rest⟩
 ·exact .inl hn
 ·exact .inr ⟨g, cap, cur, e, by omega, rest⟩
theorem OwnG.ne_of {W : World} {base : Nat} {v : Value} {xs : List α} (h : OwnG T enc W base v xs) {D : Nat} {o : Obj} (hD : W.heap[D]? = some o) (ho : o.isCells = false) : some D ≠ v.ownBlock := by
 rcases h.2 with ⟨rfl, _⟩ | ⟨g, cap, cur, rfl, _, hg, _⟩
 ·simp [Value.ownBlock]
 ·intro e
  obtain rfl : D = g := by simpa [Value.ownBlock] using e
  rw [hg] at hD; cases hD; cases ho
theorem OwnG.putObj {W : World} {base : Nat} {v : Value} {xs : List α} (h : OwnG T enc W base v xs) {l : Nat} {o : Obj} (o' : Obj) (hl : W.heap[l]? = some o) (ho : o.isCells = false) : OwnG T enc (W.putObj l o') base v xs := ownsRow_putObj h o' hl ho
theorem qaN {ops : Array Oper} {rest : List Oper} {o : Oper} {a : Act} {Q : Exit → Act → World → Prop} (W : World) (hgd : o.guard = none) (s x : Operand) {bytes : Nat} (hE : ElemT T S bytes)
 (ho : o.op = .call { callee := .builtin .append, args := #[s, x], argTypes := #[S, S] }) (hone : ∀ x : α, (enc x).oneCell' = true)
 (base : Nat) (v : Value) (xs : List α) (hs : a.eval s = v) (hown : OwnG T enc W base v xs)
 (cells : List Value) (news : List α) (hcells : cells = news.map enc) (m c : Nat) (hx : a.eval x = .slice (some ⟨W.heap.size, 0, none⟩) m c) (hm : m = news.length)
 (hbase : base ≤ W.heap.size) (hk : xs.length + news.length ≤ maxLen) (hk2 : (xs.length + news.length) * bytes ≤ 140737488355328)
 (h : ∀ v' w', OwnG T enc w' base v' (xs ++ news) → W.grownBy w' v.ownBlock → wpList Tryz.prog ops Q rest (a.put o.dst v') w') :
 wpList Tryz.prog ops Q (o :: rest) a (W.alloc (.cells cells.toArray T)) := by
 subst hcells hm
 obtain ⟨ht, i, z, hi, hz, hz1, hz2, hzc⟩ := hE
 refine wpList_append_own _ hgd s x S ho base T i z 1 bytes ht hi hz hz1 hz2 hzc (by decide) v xs.length (xs.map enc) hs (hown.alloc _) ⟨W.heap.size, 0, none⟩ news.length c (news.map enc) hx (by simp) (qba W _ _) (by intro u hu; obtain ⟨y, _, rfl⟩ := List.mem_map.1 hu; exact hone y) hk hk2 (by simp; omega) ?_
 intro v' w' h1 h2 _
 refine h v' w' ?_ (qaY h2)
 unfold OwnG
 rw [List.length_append, List.map_append]
 exact h1
theorem qfg {F : Fence} {n : Nat} {ops : Array Oper} {rest : List Oper} {o : Oper} {a : Act} {Q : Exit → Act → World → Prop} (W : World) (hgd : o.guard = none) (s x : Operand) {bytes : Nat} (hE : ElemT T S bytes)
 (ho : o.op = .call { callee := .builtin .append, args := #[s, x], argTypes := #[S, S] }) (hone : ∀ x : α, (enc x).oneCell' = true)
 (base : Nat) (v : Value) (xs : List α) (hs : a.eval s = v) (hown : OwnG T enc W base v xs)
 (cells : List Value) (news : List α) (hcells : cells = news.map enc) (m c : Nat) (hx : a.eval x = .slice (some ⟨W.heap.size, 0, none⟩) m c) (hm : m = news.length)
 (hbase : base ≤ W.heap.size) (hk : xs.length + news.length ≤ maxLen) (hk2 : (xs.length + news.length) * bytes ≤ 140737488355328)
 (h : ∀ v' w', OwnG T enc w' base v' (xs ++ news) → W.grownBy w' v.ownBlock → wpListIn F n Tryz.prog ops Q rest (a.put o.dst v') w') :
 wpListIn F n Tryz.prog ops Q (o :: rest) a (W.alloc (.cells cells.toArray T)) := by
 subst hcells hm
 obtain ⟨ht, i, z, hi, hz, hz1, hz2, hzc⟩ := hE
 refine wpListIn_append_own _ hgd s x S ho base T i z 1 bytes ht hi hz hz1 hz2 hzc (by decide) v xs.length (xs.map enc) hs (hown.alloc _) ⟨W.heap.size, 0, none⟩ news.length c (news.map enc) hx (by simp) (qba W _ _) (by intro u hu; obtain ⟨y, _, rfl⟩ := List.mem_map.1 hu; exact hone y) hk hk2 (by simp; omega) ?_
 intro v' w' h1 h2 _
 refine h v' w' ?_ (qaY h2)
 unfold OwnG
 rw [List.length_append, List.map_append]
 exact h1
def GBox (T S : TypeId) (enc : α → Value) (B base : Nat) (xs : List α) (W : World) : Prop := ∃ v, Boxed W B S v ∧ OwnG T enc W base v xs
theorem GBox.alloc {B base : Nat} {xs : List α} {W : World} (h : GBox T S enc B base xs W) (o : Obj) : GBox T S enc B base xs (W.alloc o) := by
 obtain ⟨v, h1, h2⟩ := h; exact ⟨v, h1.alloc o, h2.alloc o⟩
end
def strV (l : List UInt8) : Value := .string ⟨l.toArray⟩
end Go.Proofs.YtnpnfajgphpabaaGreat
namespace Go.Proofs.YtnpnfajgphpabaaGreat
set_option maxRecDepth 20000
open Go.RowKit Go.Shelf
section
variable {α : Type} {T : TypeId} {enc : α → Value}
theorem OwnG.set {W : World} {base : Nat} {g n c : Nat} {xs : List α} (h : OwnG T enc W base (.slice (some ⟨g, 0, none⟩) n c) xs) (j : Nat) (y : α) :
 OwnG T enc (W.setCell ⟨g, j, none⟩ (enc y)) base (.slice (some ⟨g, 0, none⟩) n c) (xs.set j y) := by
 obtain ⟨h1, h2⟩ := h
 refine ⟨by simp, ?_⟩
 rcases h2 with ⟨e, _⟩ | ⟨g', cap, cur, e, hb, hg, hc, hm, hsz, htk⟩
 ·cases e
 ·right
  simp only [Value.slice.injEq, Option.some.injEq, Addr.mk.injEq, and_true] at e
  obtain ⟨rfl, rfl, rfl⟩ := e
  refine ⟨g, c, cur.setIfInBounds j (enc y), by simp, hb, heap_setCell_same W g j cur T (enc y) hg, by simpa using hc, hm, by simpa using hsz, ?_⟩
  rw [List.length_set, Array.toList_setIfInBounds, List.take_set, htk, List.map_set]
theorem OwnG.lit (W : World) (base : Nat) (hb : base ≤ W.heap.size) (ys : List α) (hm : ys.length ≤ maxLen) :
 OwnG T enc (W.alloc (.cells (ys.map enc).toArray T)) base (.slice (some ⟨W.heap.size, 0, none⟩) ys.length ys.length) ys := by
 refine ⟨by simp, .inr ⟨W.heap.size, ys.length, (ys.map enc).toArray, rfl, hb, World.alloc_heap_new W _, qN0, hm, by simp, ?_⟩⟩
 simp only [Nat.mul_one]
 exact List.take_of_length_le (by simp)
end
end Go.Proofs.YtnpnfajgphpabaaGreat
namespace Go.Proofs.YtnpnfajgphpabaaGreat
set_option maxRecDepth 20000
open Go.RowKit Go.Shelf
def join (xs : List UInt8) (t : List UInt8 × Int) : List UInt8 × Int := if t.2 = 0 then (xs ++ t.1, 0) else ([], t.2)
def QW (W W' : World) : Prop := ∃ n, W' = W.drewN n
theorem QW.own {W W' : World} (h : QW W W') {base : Nat} {v : Value} {xs : List UInt8} (ho : OwnU8 W base v xs) : OwnU8 W' base v xs := by obtain ⟨n, rfl⟩ := h; exact ho
theorem QW.below {W W' : World} (h : QW W W') {B : Nat} {w : World} (hb : Below B w W) : Below B w W' := by obtain ⟨n, rfl⟩ := h; exact below_drewN hb n
theorem QW.size {W W' : World} (h : QW W W') : W'.heap.size = W.heap.size := by obtain ⟨n, rfl⟩ := h; rfl
end Go.Proofs.YtnpnfajgphpabaaGreat
