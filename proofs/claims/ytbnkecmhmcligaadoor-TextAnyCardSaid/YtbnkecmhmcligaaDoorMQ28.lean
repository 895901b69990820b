/-
  A report's rows: what they tell, how they lie in memory.
-/
import Derived.Test.YtbnkecmhmcligaaDoorMQ35
import Derived.Test.YtbnkecmhmcligaaDoorMQ27
import Derived.Test.YtbnkecmhmcligaaDoorMQ05
import Derived.Test.YtbnkecmhmcligaaDoorMQ04
import Derived.Deep.RegionHeld3
namespace Go.Proofs.YtbnkecmhmcligaaDoor
set_option linter.unusedVariables false
set_option linter.unusedSimpArgs false
open Go.RowKit Go.Shelf
set_option maxRecDepth 20000
structure Ft where
  path : List UInt8
  line : Int
  err : Int
structure Fw where
  kind : Int
  owner : Nm
  ty : Int
structure Ed where
  kind : Int
  par : Nm
  chi : Nm
  host : Nm
  srv : Int
structure Sn where
  kind : Int
  nm : Nm
  ty : Int
  picks : List Int
structure Rp where
  errs : List Ft
  flaws : List Fw
  edges : List Ed
  seen : List Sn
  err : Int
def faultW (f : Ft) : List UInt8 := f.path ++ [58] ++ Lib.itoa f.line ++ [58, 32] ++ wR.getD f.err.toNat []
def eRow (f : Ft) : List UInt8 := [101, 114, 114, 111, 114, 32] ++ faultW f
def fRow (f : Fw) : List UInt8 := [102, 108, 97, 119, 32] ++ wF.getD f.kind.toNat [] ++ [32] ++ textN f.owner ++ [32] ++ typeTextM f.ty
def hostW (h : Nm) : List UInt8 := if h = [] then [45] else textN h
def dRow (f : Ed) : List UInt8 := [101, 100, 103, 101, 32] ++ wE.getD f.kind.toNat [] ++ [32] ++ textN f.par ++ [32] ++ textN f.chi ++ [32] ++ hostW f.host ++ [32] ++ Lib.itoa f.srv
def picksW (l : List Int) : List UInt8 := if l = [] then [45] else sepBy [44] (l.map Lib.itoa)
def sRow (s : Sn) : List UInt8 := [115, 101, 101, 110, 32] ++ wS.getD s.kind.toNat [] ++ [32] ++ textN s.nm ++ [32] ++ typeTextM s.ty ++ [32] ++ picksW s.picks
def stopW (e : Int) : List UInt8 := [115, 116, 111, 112, 112, 101, 100, 32] ++ wR.getD e.toNat []
def lastW (e : Int) : List (List UInt8) := if e = 0 then [] else [stopW e]
def linesM (r : Rp) : List (List UInt8) := r.errs.map eRow ++ r.flaws.map fRow ++ r.edges.map dRow ++ r.seen.map sRow ++ lastW r.err
def textM (r : Rp) : List UInt8 := (linesM r).flatMap fun s => s ++ [10]
/-- Numbers of a machine word. -/
def I64 (n : Int) : Prop := -9223372036854775808 ≤ n ∧ n ≤ 9223372036854775807
/-- A name whose words are few. -/
def NmW (n : Nm) : Prop := NmOK n ∧ (textN n).length ≤ 1000000
structure FtOK (f : Ft) : Prop where
  path : f.path.length ≤ 1000000
  line : I64 f.line
  err : 0 ≤ f.err ∧ f.err < 13
structure FwOK (f : Fw) : Prop where
  kind : 0 ≤ f.kind ∧ f.kind < 10
  owner : NmW f.owner
  ty : I64 f.ty
structure EdOK (f : Ed) : Prop where
  kind : 0 ≤ f.kind ∧ f.kind < 5
  par : NmW f.par
  chi : NmW f.chi
  host : NmW f.host
  srv : I64 f.srv
structure SnOK (f : Sn) : Prop where
  kind : 0 ≤ f.kind ∧ f.kind < 10
  nm : NmW f.nm
  ty : I64 f.ty
  picks : f.picks.length ≤ 1000
  pick : ∀ p ∈ f.picks, I64 p
structure RpOK (r : Rp) : Prop where
  errs : ∀ f ∈ r.errs, FtOK f
  flaws : ∀ f ∈ r.flaws, FwOK f
  edges : ∀ f ∈ r.edges, EdOK f
  seen : ∀ f ∈ r.seen, SnOK f
  err : 0 ≤ r.err ∧ r.err < 13
  few : r.errs.length ≤ 1000 ∧ r.flaws.length ≤ 1000 ∧ r.edges.length ≤ 1000 ∧ r.seen.length ≤ 1000
def FtAt (W : World) (cs : List Value) (f : Ft) : Prop := ∃ b, cs = [.pointer (some ⟨b, 0, none⟩)] ∧ b < W.heap.size ∧ W.cell? ⟨b, 0, none⟩ = some (strV f.path) ∧ W.cell? ⟨b, 1, none⟩ = some (.int .i64 f.line) ∧ W.cell? ⟨b, 2, none⟩ = some (.int .i64 f.err)
def FwAt (W : World) (cs : List Value) (f : Fw) : Prop := ∃ v, cs = [.int .i64 f.kind, v, .int .i64 f.ty] ∧ NmAt W v f.owner
def EdAt (W : World) (cs : List Value) (f : Ed) : Prop := ∃ v1 v2 v3, cs = [.int .i64 f.kind, v1, v2, v3, .int .i64 f.srv] ∧ NmAt W v1 f.par ∧ NmAt W v2 f.chi ∧ NmAt W v3 f.host
def SnAt (W : World) (cs : List Value) (f : Sn) : Prop := ∃ v1 v2, cs = [.int .i64 f.kind, v1, .int .i64 f.ty, v2] ∧ NmAt W v1 f.nm ∧ SlAt W v2 (f.picks.map fun p => .int .i64 p)
theorem FtAt.below {W W' : World} {cs : List Value} {f : Ft} (h : FtAt W cs f) (hb : Below W.heap.size W W') : FtAt W' cs f := by
  obtain ⟨b, e, h0, h1, h2, h3⟩ := h
  exact ⟨b, e, Nat.lt_of_lt_of_le h0 hb.size, (hb.cell (p := ⟨b, 0, none⟩) h0).trans h1, (hb.cell (p := ⟨b, 1, none⟩) h0).trans h2, (hb.cell (p := ⟨b, 2, none⟩) h0).trans h3⟩
theorem FwAt.below {W W' : World} {cs : List Value} {f : Fw} (h : FwAt W cs f) (hb : Below W.heap.size W W') : FwAt W' cs f := by
  obtain ⟨v, e, h1⟩ := h
  exact ⟨v, e, h1.below hb⟩
theorem EdAt.below {W W' : World} {cs : List Value} {f : Ed} (h : EdAt W cs f) (hb : Below W.heap.size W W') : EdAt W' cs f := by
  obtain ⟨v1, v2, v3, e, h1, h2, h3⟩ := h
  exact ⟨v1, v2, v3, e, h1.below hb, h2.below hb, h3.below hb⟩
theorem SnAt.below {W W' : World} {cs : List Value} {f : Sn} (h : SnAt W cs f) (hb : Below W.heap.size W W') : SnAt W' cs f := by
  obtain ⟨v1, v2, e, h1, h2⟩ := h
  exact ⟨v1, v2, e, h1.below hb, h2.below hb⟩
/-- A row in memory, element by element. -/
def RowsAt {α : Type} (At : World → List Value → α → Prop) (W : World) (v : Value) (l : List α) : Prop := ∃ css, SlK W v css ∧ css.length = l.length ∧ ∀ j (h1 : j < css.length) (h2 : j < l.length), At W css[j] l[j]
theorem RowsAt.below {α : Type} {At : World → List Value → α → Prop} (hAt : ∀ (W W' : World) (cs : List Value) (x : α), At W cs x → Below W.heap.size W W' → At W' cs x) {W W' : World} {v : Value} {l : List α} (h : RowsAt At W v l) (hb : Below W.heap.size W W') : RowsAt At W' v l := by
  obtain ⟨css, h1, h2, h3⟩ := h
  exact ⟨css, h1.below hb, h2, fun j a b => hAt _ _ _ _ (h3 j a b) hb⟩
theorem RowsAt.nil {α : Type} (At : World → List Value → α → Prop) (W : World) : RowsAt At W (.slice none 0 0) [] := ⟨[], SlK.nil W, rfl, fun j h1 => absurd h1 (Nat.not_lt_zero _)⟩
theorem RowsAt.shape {α : Type} {At : World → List Value → α → Prop} {W : World} {v : Value} {l : List α} (h : RowsAt At W v l) : ∃ a c, v = .slice a l.length c ∧ l.length ≤ c := by
  obtain ⟨css, ⟨a, c, e, h1, _⟩, h2, _⟩ := h
  exact ⟨a, c, by rw [e, h2], by omega⟩
theorem flat_get {k : Nat} (l : List (List Value)) (hk : ∀ cs ∈ l, cs.length = k) : ∀ (j : Nat) (hj : j < l.length) (i : Nat) (u : Value), l[j][i]? = some u → l.flatten[j * k + i]? = some u := by
  induction l with
  | nil => intro j hj; simp at hj
  | cons x r ih =>
    intro j hj i u he
    rw [List.flatten_cons]
    have hx : x.length = k := hk x (by simp)
    cases j with
    | zero =>
      rw [List.getElem_cons_zero] at he
      have hi := (List.getElem?_eq_some_iff.1 he).1
      rw [Nat.zero_mul, Nat.zero_add, List.getElem?_append_left hi]
      exact he
    | succ j =>
      rw [List.getElem_cons_succ] at he
      rw [List.getElem?_append_right (by rw [hx, Nat.succ_mul]; omega), hx, show (j + 1) * k + i - k = j * k + i by rw [Nat.succ_mul]; omega]
      exact ih (fun cs hc => hk cs (by simp [hc])) j (by simpa using hj) i u he
/-- One element, as a loop loads it. -/
theorem RowsAt.get {α : Type} {At : World → List Value → α → Prop} {k : Nat} (hAk : ∀ W cs x, At W cs x → cs.length = k) {W : World} {a : Option Addr} {n c : Nat} {l : List α} (h : RowsAt At W (.slice a n c) l) {j : Nat} (hj : j < l.length) : ∃ (g off : Nat) (cs : List Value), a = some ⟨g, off, none⟩ ∧ g < W.heap.size ∧ At W cs l[j] ∧ cs.length = k ∧ ∀ i u, cs[i]? = some u → W.cell? ⟨g, off + j * k + i, none⟩ = some u := by
  obtain ⟨css, ⟨a', c', e, h1, h2, hx⟩, hl, hA⟩ := h
  injection e with e1 e2 e3
  subst e1
  have hck : ∀ cs ∈ css, cs.length = k := fun cs hc => by
    obtain ⟨i, hi, rfl⟩ := List.mem_iff_getElem.1 hc
    exact hAk _ _ _ (hA i hi (by omega))
  rcases hx with hx | ⟨b, off, rfl, hb, hc⟩
  · subst hx; simp at hl; omega
  · have hjc : j < css.length := by omega
    refine ⟨b, off, css[j], rfl, hb, hA j hjc hj, hck _ (List.getElem_mem hjc), fun i u hu => ?_⟩
    rw [Nat.add_assoc]
    exact hc _ _ (flat_get css hck j hjc i u hu)
theorem FtAt.len (W : World) (cs : List Value) (f : Ft) (h : FtAt W cs f) : cs.length = 1 := by obtain ⟨b, rfl, _⟩ := h; rfl
theorem FwAt.len (W : World) (cs : List Value) (f : Fw) (h : FwAt W cs f) : cs.length = 3 := by obtain ⟨b, rfl, _⟩ := h; rfl
theorem EdAt.len (W : World) (cs : List Value) (f : Ed) (h : EdAt W cs f) : cs.length = 5 := by obtain ⟨v1, v2, v3, rfl, _⟩ := h; rfl
theorem SnAt.len (W : World) (cs : List Value) (f : Sn) (h : SnAt W cs f) : cs.length = 4 := by obtain ⟨v1, v2, rfl, _⟩ := h; rfl
/-- A report in memory: its five cells. -/
structure RpAt (W : World) (ve vf vd vs : Value) (r : Rp) : Prop where
  e : RowsAt FtAt W ve r.errs
  f : RowsAt FwAt W vf r.flaws
  d : RowsAt EdAt W vd r.edges
  s : RowsAt SnAt W vs r.seen
theorem RpAt.below {W W' : World} {ve vf vd vs : Value} {r : Rp} (h : RpAt W ve vf vd vs r) (hb : Below W.heap.size W W') : RpAt W' ve vf vd vs r :=
  ⟨RowsAt.below (At := FtAt) (fun _ _ _ _ h1 h2 => FtAt.below h1 h2) h.e hb, RowsAt.below (At := FwAt) (fun _ _ _ _ h1 h2 => FwAt.below h1 h2) h.f hb, RowsAt.below (At := EdAt) (fun _ _ _ _ h1 h2 => EdAt.below h1 h2) h.d hb, RowsAt.below (At := SnAt) (fun _ _ _ _ h1 h2 => SnAt.below h1 h2) h.s hb⟩
theorem add_rep (x y z : List UInt8) (h : z = x ++ y) (hz : z.length ≤ 1000000000000) (W : World) : (Op.stringOp .add (⟨x.toArray⟩ : ByteArray) ⟨y.toArray⟩).run Tryd.prog W = .ok (.string ⟨z.toArray⟩) W := by
  subst h
  have := run_string_add_sum (P := Tryd.prog) W (⟨x.toArray⟩ : ByteArray) ⟨y.toArray⟩ (by rw [mk_size, mk_size]; rw [List.length_append] at hz; omega)
  rw [mk_append] at this
  exact this
end Go.Proofs.YtbnkecmhmcligaaDoor

/-
  The rows of a report in words. (Written by wip/tools/genrepr.py.)
-/
namespace Go.Proofs.YtbnkecmhmcligaaDoor
set_option linter.unusedVariables false
set_option linter.unusedSimpArgs false
open Go.RowKit Go.Shelf
set_option maxRecDepth 20000
/-- A box of the call's own, and what lies below it. -/
structure BxB (w : World) (cs : Array Value) (T : TypeId) (W : World) : Prop where
  p : W.heap[w.heap.size]? = some (.cells cs T)
  below : Below w.heap.size w W
theorem BxB.keep {w W W' : World} {cs : Array Value} {T : TypeId} (h : BxB w cs T W) (hb : Below W.heap.size W W') : BxB w cs T W' :=
  ⟨(hb.block _ (kblock_lt h.p)).trans h.p, h.below.trans (hb.mono h.below.size)⟩
theorem BxB.new (w : World) (cs : Array Value) (T : TypeId) : BxB w cs T (w.alloc (.cells cs T)) := ⟨knew _ _, (Below.refl w.heap.size w).alloc (Nat.le_refl _) _⟩
theorem getD_le {l : List (List UInt8)} {B : Nat} (h : ∀ x ∈ l, x.length ≤ B) (k : Nat) : (l.getD k []).length ≤ B := by
  rw [List.getD_eq_getElem?_getD]
  cases hk : l[k]? with
  | none => simp
  | some x => exact h x (List.mem_of_getElem? hk)
theorem wF_len (k : Nat) : (wF.getD k []).length ≤ 20 := getD_le (by decide) k
theorem wE_len (k : Nat) : (wE.getD k []).length ≤ 20 := getD_le (by decide) k
theorem wS_len (k : Nat) : (wS.getD k []).length ≤ 20 := getD_le (by decide) k
theorem wR_len (k : Nat) : (wR.getD k []).length ≤ 20 := getD_le (by decide) k
theorem tyText_len (t : Int) (h : I64 t) : (typeTextM t).length ≤ 30 := by
  unfold typeTextM
  cases h1 : rowOfT t with
  | none => have := itoa_len t h.1 h.2; simp only [List.length_append, List.length_cons, List.length_nil]; omega
  | some j => have := (typeS_ne j (find_range h1).1).2.2; show (typeS j).length ≤ 30; omega
theorem hostW_len (n : Nm) (h : NmW n) : (hostW n).length ≤ 1000000 := by
  unfold hostW; split
  · simp
  · exact h.2
theorem wd_below {n : Nat} {a : Array Value} {w : World} {s : ByteArray} (h : Calls Tryd.prog n a w fun e w' => e = .returned (.string s) ∧ w' = w) : Calls Tryd.prog n a w fun e w' => e = .returned (.string s) ∧ Below w.heap.size w w' :=
  h.mono fun e w' ⟨h1, h2⟩ => ⟨h1, h2 ▸ Below.refl _ _⟩
set_option maxRecDepth 100000 in
set_option maxHeartbeats 8000000 in
theorem fault_Error (cs : List Value) (f : Ft) (w : World) (hA : FtAt w cs f) (hk : FtOK f) (hT : Tab w) (u : Value) (hu : cs = [u]) :
    Calls Tryd.prog 32 #[u] w fun e w' => e = .returned (.string ⟨(faultW f).toArray⟩) ∧ Below w.heap.size w w' := by
  obtain ⟨b, rfl, hlt, k0, k1, k2⟩ := hA
  obtain rfl : Value.pointer (some ⟨b, 0, none⟩) = u := by injection hu
  have hHI := fun W (hb : Below w.heap.size w W) => strconv_Itoa f.line hk.line.1 hk.line.2 W (hT.below hb)
  have hHW := fun W (hb : Below w.heap.size w W) => wd_below (rep_wordR f.err hk.err.1 hk.err.2 W)
  have hR : faultW f = f.path ++ [58] ++ Lib.itoa f.line ++ [58, 32] ++ wR.getD f.err.toNat [] := rfl
  have l0 := hk.path
  have l1 := itoa_len f.line hk.line.1 hk.line.2
  have l2 := wR_len f.err.toNat
  unfold strV at k0
  generalize faultW f = res at *
  generalize Lib.itoa f.line = x1 at *
  generalize wR.getD f.err.toNat [] = x2 at *
  generalize f.path = x0 at *
  generalize f.line = ln at *
  generalize f.err = er at *
  have hL : res.length ≤ 1000000000000 := by rw [hR]; simp only [List.length_append, List.length_cons, List.length_nil]; omega
  have hz := hL
  rw [hR] at hz
  simp only [List.length_append] at hz
  have A0 := add_rep (x0) [58] (x0 ++ [58]) rfl (by simp only [List.length_append]; omega)
  have A1 := add_rep (x0 ++ [58]) x1 (x0 ++ [58] ++ x1) rfl (by simp only [List.length_append]; omega)
  have A2 := add_rep (x0 ++ [58] ++ x1) [58, 32] (x0 ++ [58] ++ x1 ++ [58, 32]) rfl (by simp only [List.length_append]; omega)
  have A3 := add_rep (x0 ++ [58] ++ x1 ++ [58, 32]) x2 res hR hL
  generalize (⟨res.toArray⟩ : ByteArray) = b3 at *
  generalize (⟨(x0 ++ [58] ++ x1 ++ [58, 32]).toArray⟩ : ByteArray) = b2 at *
  generalize (⟨(x0 ++ [58] ++ x1).toArray⟩ : ByteArray) = b1 at *
  generalize (⟨(x0 ++ [58]).toArray⟩ : ByteArray) = b0 at *
  generalize (⟨x0.toArray⟩ : ByteArray) = cx0 at *
  generalize (⟨x1.toArray⟩ : ByteArray) = cx1 at *
  generalize (⟨x2.toArray⟩ : ByteArray) = cx2 at *
  have B0 : ∀ W, (Op.stringOp .add cx0 (⟨#[58]⟩ : ByteArray)).run Tryd.prog W = .ok (.string b0) W := A0
  have B1 : ∀ W, (Op.stringOp .add b0 cx1).run Tryd.prog W = .ok (.string b1) W := A1
  have B2 : ∀ W, (Op.stringOp .add b1 (⟨#[58, 32]⟩ : ByteArray)).run Tryd.prog W = .ok (.string b2) W := A2
  have B3 : ∀ W, (Op.stringOp .add b2 cx2).run Tryd.prog W = .ok (.string b3) W := A3
  clear A0 A1 A2 A3
  clear hz hL
  have HI := Lib.hid (fun (W : World) (h : W.cell? ⟨b, 0, none⟩ = some (.string cx0) ∧ W.cell? ⟨b, 1, none⟩ = some (.int .i64 ln) ∧ W.cell? ⟨b, 2, none⟩ = some (.int .i64 er) ∧ Below w.heap.size w W) => hHI W h.2.2.2)
  have HW := Lib.hid (fun (W : World) (h : W.cell? ⟨b, 0, none⟩ = some (.string cx0) ∧ W.cell? ⟨b, 1, none⟩ = some (.int .i64 ln) ∧ W.cell? ⟨b, 2, none⟩ = some (.int .i64 er) ∧ Below w.heap.size w W) => hHW W h.2.2.2)
  have KS := Lib.hid (fun (W W' : World) (h : W.cell? ⟨b, 0, none⟩ = some (.string cx0) ∧ W.cell? ⟨b, 1, none⟩ = some (.int .i64 ln) ∧ W.cell? ⟨b, 2, none⟩ = some (.int .i64 er) ∧ Below w.heap.size w W) (hb : Below W.heap.size W W') => (⟨(hb.cell (p := ⟨b, 0, none⟩) (World.block_lt_of_cell? W _ h.1)).trans h.1, (hb.cell (p := ⟨b, 1, none⟩) (World.block_lt_of_cell? W _ h.2.1)).trans h.2.1, (hb.cell (p := ⟨b, 2, none⟩) (World.block_lt_of_cell? W _ h.2.2.1)).trans h.2.2.1, h.2.2.2.trans (hb.mono h.2.2.2.size)⟩ : W'.cell? ⟨b, 0, none⟩ = some (.string cx0) ∧ W'.cell? ⟨b, 1, none⟩ = some (.int .i64 ln) ∧ W'.cell? ⟨b, 2, none⟩ = some (.int .i64 er) ∧ Below w.heap.size w W'))
  have KD := Lib.hid (fun (W : World) (h : W.cell? ⟨b, 0, none⟩ = some (.string cx0) ∧ W.cell? ⟨b, 1, none⟩ = some (.int .i64 ln) ∧ W.cell? ⟨b, 2, none⟩ = some (.int .i64 er) ∧ Below w.heap.size w W) => KS.out W W.drew h ⟨rfl, rfl, rfl, Nat.le_refl _, fun _ _ => rfl⟩)
  have hS0 : w.cell? ⟨b, 0, none⟩ = some (.string cx0) ∧ w.cell? ⟨b, 1, none⟩ = some (.int .i64 ln) ∧ w.cell? ⟨b, 2, none⟩ = some (.int .i64 er) ∧ Below w.heap.size w w := ⟨k0, k1, k2, Below.refl _ _⟩
  clear hR hk hu hlt k0 k1 k2 hHI hHW hT
  go_enter Tryd.func32, Tryd.ntmps32
  go_wp2_with fail
  go_region_held3 (fun W => W.cell? ⟨b, 0, none⟩ = some (.string cx0) ∧ W.cell? ⟨b, 1, none⟩ = some (.int .i64 ln) ∧ W.cell? ⟨b, 2, none⟩ = some (.int .i64 er) ∧ Below w.heap.size w W)
    (first | with_reducible assumption | (with_reducible exact KD.out _ (by with_reducible assumption)))
    (first | ((with_reducible refine (HI.out _ (by with_reducible assumption)).mono ?_); rintro e w2 ⟨rfl, hb2⟩; have hS2 := KS.out _ _ (by with_reducible assumption) hb2) | ((with_reducible refine (HW.out _ (by with_reducible assumption)).mono ?_); rintro e w2 ⟨rfl, hb2⟩; have hS2 := KS.out _ _ (by with_reducible assumption) hb2))
  all_goals
    rename_i hSe
    go_wp2_with fail
    go_ret
    exact ⟨rfl, hSe.2.2.2⟩
set_option maxHeartbeats 4000000 in
theorem text_errorRow (cs : List Value) (f : Ft) (w : World) (hA : FtAt w cs f) (hk : FtOK f) (hT : Tab w) (u : Value) (hu : cs = [u]) :
    Calls Tryd.prog 20 #[u] w fun e w' => e = .returned (.string ⟨(eRow f).toArray⟩) ∧ Below w.heap.size w w' := by
  have hE := fault_Error cs f w hA hk hT u hu
  have l0 := hk.path
  have l1 := itoa_len f.line hk.line.1 hk.line.2
  have l2 := wR_len f.err.toNat
  have hl : (faultW f).length ≤ 2000000 := by unfold faultW; simp only [List.length_append, List.length_cons, List.length_nil]; omega
  have hA0 := add_rep [101, 114, 114, 111, 114, 32] (faultW f) (eRow f) rfl (by unfold eRow; simp only [List.length_append, List.length_cons, List.length_nil]; omega)
  generalize eRow f = res at *
  generalize faultW f = x1 at *
  generalize (⟨x1.toArray⟩ : ByteArray) = c1 at *
  generalize (⟨res.toArray⟩ : ByteArray) = b0 at *
  have B0 : ∀ W, (Op.stringOp .add (⟨#[101, 114, 114, 111, 114, 32]⟩ : ByteArray) c1).run Tryd.prog W = .ok (.string b0) W := hA0
  clear hA0 hl l0 l1 l2 hA hk
  go_enter Tryd.func20, Tryd.ntmps20
  go_wp2_with fail
  refine hE.mono ?_
  rintro e w1 ⟨rfl, hb1⟩
  go_wp2_with fail
  go_ret
  exact ⟨rfl, hb1⟩
set_option maxRecDepth 100000 in
set_option maxHeartbeats 8000000 in
theorem text_flawRow (cs : List Value) (f : Fw) (w : World) (hA : FwAt w cs f) (hk : FwOK f) (hT : Tab w) :
    Calls Tryd.prog 22 #[.agg cs.toArray] w fun e w' => e = .returned (.string ⟨(fRow f).toArray⟩) ∧ Below w.heap.size w w' := by
  obtain ⟨vo, rfl, a1⟩ := hA
  have hHW := fun W (hb : Below w.heap.size w W) => wd_below (rep_wordF f.kind hk.kind.1 hk.kind.2 W)
  have hHN := fun W (hb : Below w.heap.size w W) => kn_NText vo f.owner _ rfl W (a1.below hb) hk.owner.1
  have hHT := fun W (hb : Below w.heap.size w W) => rtype_Text f.ty hk.ty.1 hk.ty.2 W (hT.below hb)
  have hR : fRow f = [102, 108, 97, 119, 32] ++ wF.getD f.kind.toNat [] ++ [32] ++ textN f.owner ++ [32] ++ typeTextM f.ty := rfl
  have l1 := wF_len f.kind.toNat
  have l2 := hk.owner.2
  have l3 := tyText_len f.ty hk.ty
  generalize fRow f = res at *
  generalize wF.getD f.kind.toNat [] = x1 at *
  generalize textN f.owner = x2 at *
  generalize typeTextM f.ty = x3 at *
  generalize f.kind = kd at *
  generalize f.ty = ty at *
  clear a1 hT
  have hL : res.length ≤ 1000000000000 := by rw [hR]; simp only [List.length_append, List.length_cons, List.length_nil]; omega
  have hz := hL
  rw [hR] at hz
  simp only [List.length_append] at hz
  have A0 := add_rep ([102, 108, 97, 119, 32]) x1 ([102, 108, 97, 119, 32] ++ x1) rfl (by simp only [List.length_append]; omega)
  have A1 := add_rep ([102, 108, 97, 119, 32] ++ x1) [32] ([102, 108, 97, 119, 32] ++ x1 ++ [32]) rfl (by simp only [List.length_append]; omega)
  have A2 := add_rep ([102, 108, 97, 119, 32] ++ x1 ++ [32]) x2 ([102, 108, 97, 119, 32] ++ x1 ++ [32] ++ x2) rfl (by simp only [List.length_append]; omega)
  have A3 := add_rep ([102, 108, 97, 119, 32] ++ x1 ++ [32] ++ x2) [32] ([102, 108, 97, 119, 32] ++ x1 ++ [32] ++ x2 ++ [32]) rfl (by simp only [List.length_append]; omega)
  have A4 := add_rep ([102, 108, 97, 119, 32] ++ x1 ++ [32] ++ x2 ++ [32]) x3 res hR hL
  generalize (⟨res.toArray⟩ : ByteArray) = b4 at *
  generalize (⟨([102, 108, 97, 119, 32] ++ x1 ++ [32] ++ x2 ++ [32]).toArray⟩ : ByteArray) = b3 at *
  generalize (⟨([102, 108, 97, 119, 32] ++ x1 ++ [32] ++ x2).toArray⟩ : ByteArray) = b2 at *
  generalize (⟨([102, 108, 97, 119, 32] ++ x1 ++ [32]).toArray⟩ : ByteArray) = b1 at *
  generalize (⟨([102, 108, 97, 119, 32] ++ x1).toArray⟩ : ByteArray) = b0 at *
  generalize (⟨x1.toArray⟩ : ByteArray) = cx1 at *
  generalize (⟨x2.toArray⟩ : ByteArray) = cx2 at *
  generalize (⟨x3.toArray⟩ : ByteArray) = cx3 at *
  have B0 : ∀ W, (Op.stringOp .add (⟨#[102, 108, 97, 119, 32]⟩ : ByteArray) cx1).run Tryd.prog W = .ok (.string b0) W := A0
  have B1 : ∀ W, (Op.stringOp .add b0 (⟨#[32]⟩ : ByteArray)).run Tryd.prog W = .ok (.string b1) W := A1
  have B2 : ∀ W, (Op.stringOp .add b1 cx2).run Tryd.prog W = .ok (.string b2) W := A2
  have B3 : ∀ W, (Op.stringOp .add b2 (⟨#[32]⟩ : ByteArray)).run Tryd.prog W = .ok (.string b3) W := A3
  have B4 : ∀ W, (Op.stringOp .add b3 cx3).run Tryd.prog W = .ok (.string b4) W := A4
  clear A0 A1 A2 A3 A4
  clear hz hL
  have HSS := Lib.hid (fun (W : World) (h : BxB w #[(.int .i64 kd), vo, (.int .i64 ty)] 41 W) => (⟨kcell h.p 0 _ rfl, kcell h.p 1 _ rfl, kcell h.p 2 _ rfl, h⟩ : W.cell? ⟨w.heap.size, 0, none⟩ = some (.int .i64 kd) ∧ W.cell? ⟨w.heap.size, 1, none⟩ = some vo ∧ W.cell? ⟨w.heap.size, 2, none⟩ = some (.int .i64 ty) ∧ BxB w #[(.int .i64 kd), vo, (.int .i64 ty)] 41 W))
  have HW := Lib.hid (fun (W : World) (h : W.cell? ⟨w.heap.size, 0, none⟩ = some (.int .i64 kd) ∧ W.cell? ⟨w.heap.size, 1, none⟩ = some vo ∧ W.cell? ⟨w.heap.size, 2, none⟩ = some (.int .i64 ty) ∧ BxB w #[(.int .i64 kd), vo, (.int .i64 ty)] 41 W) => hHW W h.2.2.2.below)
  have HN := Lib.hid (fun (W : World) (h : W.cell? ⟨w.heap.size, 0, none⟩ = some (.int .i64 kd) ∧ W.cell? ⟨w.heap.size, 1, none⟩ = some vo ∧ W.cell? ⟨w.heap.size, 2, none⟩ = some (.int .i64 ty) ∧ BxB w #[(.int .i64 kd), vo, (.int .i64 ty)] 41 W) => hHN W h.2.2.2.below)
  have HT := Lib.hid (fun (W : World) (h : W.cell? ⟨w.heap.size, 0, none⟩ = some (.int .i64 kd) ∧ W.cell? ⟨w.heap.size, 1, none⟩ = some vo ∧ W.cell? ⟨w.heap.size, 2, none⟩ = some (.int .i64 ty) ∧ BxB w #[(.int .i64 kd), vo, (.int .i64 ty)] 41 W) => hHT W h.2.2.2.below)
  have KS := Lib.hid (fun (W W' : World) (h : W.cell? ⟨w.heap.size, 0, none⟩ = some (.int .i64 kd) ∧ W.cell? ⟨w.heap.size, 1, none⟩ = some vo ∧ W.cell? ⟨w.heap.size, 2, none⟩ = some (.int .i64 ty) ∧ BxB w #[(.int .i64 kd), vo, (.int .i64 ty)] 41 W) (hb : Below W.heap.size W W') => HSS.out W' (h.2.2.2.keep hb))
  have KD := Lib.hid (fun (W : World) (h : W.cell? ⟨w.heap.size, 0, none⟩ = some (.int .i64 kd) ∧ W.cell? ⟨w.heap.size, 1, none⟩ = some vo ∧ W.cell? ⟨w.heap.size, 2, none⟩ = some (.int .i64 ty) ∧ BxB w #[(.int .i64 kd), vo, (.int .i64 ty)] 41 W) => HSS.out W.drew (h.2.2.2.keep (W' := W.drew) ⟨rfl, rfl, rfl, Nat.le_refl _, fun _ _ => rfl⟩))
  have hS0 := HSS.out _ (BxB.new w #[(.int .i64 kd), vo, (.int .i64 ty)] 41)
  clear hR hk HSS hHW hHN hHT
  go_enter Tryd.func22, Tryd.ntmps22
  go_wp2_with fail
  go_region_held3 (fun W => W.cell? ⟨w.heap.size, 0, none⟩ = some (.int .i64 kd) ∧ W.cell? ⟨w.heap.size, 1, none⟩ = some vo ∧ W.cell? ⟨w.heap.size, 2, none⟩ = some (.int .i64 ty) ∧ BxB w #[(.int .i64 kd), vo, (.int .i64 ty)] 41 W)
    (first | with_reducible assumption | (with_reducible exact KD.out _ (by with_reducible assumption)))
    (first | ((with_reducible refine (HW.out _ (by with_reducible assumption)).mono ?_); rintro e w2 ⟨rfl, hb2⟩; have hS2 := KS.out _ _ (by with_reducible assumption) hb2) | ((with_reducible refine (HN.out _ (by with_reducible assumption)).mono ?_); rintro e w2 ⟨rfl, hb2⟩; have hS2 := KS.out _ _ (by with_reducible assumption) hb2) | ((with_reducible refine (HT.out _ (by with_reducible assumption)).mono ?_); rintro e w2 ⟨rfl, hb2⟩; have hS2 := KS.out _ _ (by with_reducible assumption) hb2))
  all_goals
    rename_i hSe
    go_wp2_with fail
    go_ret
    exact ⟨rfl, hSe.2.2.2.below⟩
set_option maxRecDepth 100000 in
set_option maxHeartbeats 8000000 in
theorem text_edgeRow (cs : List Value) (f : Ed) (w : World) (hA : EdAt w cs f) (hk : EdOK f) (hT : Tab w) :
    Calls Tryd.prog 24 #[.agg cs.toArray] w fun e w' => e = .returned (.string ⟨(dRow f).toArray⟩) ∧ Below w.heap.size w w' := by
  obtain ⟨v1, v2, v3, rfl, a1, a2, a3⟩ := hA
  have hHW := fun W (hb : Below w.heap.size w W) => wd_below (rep_wordE f.kind hk.kind.1 hk.kind.2 W)
  have hHN := fun W (hb : Below w.heap.size w W) => kn_NText v1 f.par _ rfl W (a1.below hb) hk.par.1
  have hHM := fun W (hb : Below w.heap.size w W) => kn_NText v2 f.chi _ rfl W (a2.below hb) hk.chi.1
  have hHI := fun W (hb : Below w.heap.size w W) => strconv_Itoa f.srv hk.srv.1 hk.srv.2 W (hT.below hb)
  have hR : dRow f = [101, 100, 103, 101, 32] ++ wE.getD f.kind.toNat [] ++ [32] ++ textN f.par ++ [32] ++ textN f.chi ++ [32] ++ hostW f.host ++ [32] ++ Lib.itoa f.srv := rfl
  have l1 := wE_len f.kind.toNat
  have l2 := hk.par.2
  have l3 := hk.chi.2
  have l4 := hostW_len f.host hk.host
  have l5 := itoa_len f.srv hk.srv.1 hk.srv.2
  obtain ⟨⟨ah, ch, rfl, -⟩, -⟩ := id a3
  obtain ⟨nh, hnh⟩ : ∃ n, f.host.length = n := ⟨_, rfl⟩
  rw [hnh] at a3 ⊢
  have hhost : (nh = 0 ∧ (⟨(hostW f.host).toArray⟩ : ByteArray) = ⟨#[45]⟩) ∨ ((0 : Int) < (nh : Int) ∧ ∀ W, Below w.heap.size w W → Calls Tryd.prog 34 #[.slice ah nh ch] W fun e w' => e = .returned (.string ⟨(hostW f.host).toArray⟩) ∧ Below W.heap.size W w') := by
    by_cases h0 : nh = 0
    · left
      refine ⟨h0, ?_⟩
      have : f.host = [] := List.eq_nil_of_length_eq_zero (by omega)
      rw [this]; rfl
    · right
      refine ⟨by omega, fun W hb => ?_⟩
      have hne : f.host ≠ [] := fun e => by rw [e] at hnh; simp at hnh; omega
      rw [show hostW f.host = textN f.host from if_neg hne]
      exact kn_NText _ f.host _ rfl W (a3.below hb) hk.host.1
  clear a3 hnh
  generalize dRow f = res at *
  generalize wE.getD f.kind.toNat [] = x1 at *
  generalize textN f.par = x2 at *
  generalize textN f.chi = x3 at *
  generalize hostW f.host = x4 at *
  generalize Lib.itoa f.srv = x5 at *
  generalize f.kind = kd at *
  generalize f.srv = sv at *
  clear a1 a2 hT
  have hL : res.length ≤ 1000000000000 := by rw [hR]; simp only [List.length_append, List.length_cons, List.length_nil]; omega
  have hz := hL
  rw [hR] at hz
  simp only [List.length_append] at hz
  have A0 := add_rep ([101, 100, 103, 101, 32]) x1 ([101, 100, 103, 101, 32] ++ x1) rfl (by simp only [List.length_append]; omega)
  have A1 := add_rep ([101, 100, 103, 101, 32] ++ x1) [32] ([101, 100, 103, 101, 32] ++ x1 ++ [32]) rfl (by simp only [List.length_append]; omega)
  have A2 := add_rep ([101, 100, 103, 101, 32] ++ x1 ++ [32]) x2 ([101, 100, 103, 101, 32] ++ x1 ++ [32] ++ x2) rfl (by simp only [List.length_append]; omega)
  have A3 := add_rep ([101, 100, 103, 101, 32] ++ x1 ++ [32] ++ x2) [32] ([101, 100, 103, 101, 32] ++ x1 ++ [32] ++ x2 ++ [32]) rfl (by simp only [List.length_append]; omega)
  have A4 := add_rep ([101, 100, 103, 101, 32] ++ x1 ++ [32] ++ x2 ++ [32]) x3 ([101, 100, 103, 101, 32] ++ x1 ++ [32] ++ x2 ++ [32] ++ x3) rfl (by simp only [List.length_append]; omega)
  have A5 := add_rep ([101, 100, 103, 101, 32] ++ x1 ++ [32] ++ x2 ++ [32] ++ x3) [32] ([101, 100, 103, 101, 32] ++ x1 ++ [32] ++ x2 ++ [32] ++ x3 ++ [32]) rfl (by simp only [List.length_append]; omega)
  have A6 := add_rep ([101, 100, 103, 101, 32] ++ x1 ++ [32] ++ x2 ++ [32] ++ x3 ++ [32]) x4 ([101, 100, 103, 101, 32] ++ x1 ++ [32] ++ x2 ++ [32] ++ x3 ++ [32] ++ x4) rfl (by simp only [List.length_append]; omega)
  have A7 := add_rep ([101, 100, 103, 101, 32] ++ x1 ++ [32] ++ x2 ++ [32] ++ x3 ++ [32] ++ x4) [32] ([101, 100, 103, 101, 32] ++ x1 ++ [32] ++ x2 ++ [32] ++ x3 ++ [32] ++ x4 ++ [32]) rfl (by simp only [List.length_append]; omega)
  have A8 := add_rep ([101, 100, 103, 101, 32] ++ x1 ++ [32] ++ x2 ++ [32] ++ x3 ++ [32] ++ x4 ++ [32]) x5 res hR hL
  generalize (⟨res.toArray⟩ : ByteArray) = b8 at *
  generalize (⟨([101, 100, 103, 101, 32] ++ x1 ++ [32] ++ x2 ++ [32] ++ x3 ++ [32] ++ x4 ++ [32]).toArray⟩ : ByteArray) = b7 at *
  generalize (⟨([101, 100, 103, 101, 32] ++ x1 ++ [32] ++ x2 ++ [32] ++ x3 ++ [32] ++ x4).toArray⟩ : ByteArray) = b6 at *
  generalize (⟨([101, 100, 103, 101, 32] ++ x1 ++ [32] ++ x2 ++ [32] ++ x3 ++ [32]).toArray⟩ : ByteArray) = b5 at *
  generalize (⟨([101, 100, 103, 101, 32] ++ x1 ++ [32] ++ x2 ++ [32] ++ x3).toArray⟩ : ByteArray) = b4 at *
  generalize (⟨([101, 100, 103, 101, 32] ++ x1 ++ [32] ++ x2 ++ [32]).toArray⟩ : ByteArray) = b3 at *
  generalize (⟨([101, 100, 103, 101, 32] ++ x1 ++ [32] ++ x2).toArray⟩ : ByteArray) = b2 at *
  generalize (⟨([101, 100, 103, 101, 32] ++ x1 ++ [32]).toArray⟩ : ByteArray) = b1 at *
  generalize (⟨([101, 100, 103, 101, 32] ++ x1).toArray⟩ : ByteArray) = b0 at *
  generalize (⟨x1.toArray⟩ : ByteArray) = cx1 at *
  generalize (⟨x2.toArray⟩ : ByteArray) = cx2 at *
  generalize (⟨x3.toArray⟩ : ByteArray) = cx3 at *
  generalize (⟨x4.toArray⟩ : ByteArray) = cx4 at *
  generalize (⟨x5.toArray⟩ : ByteArray) = cx5 at *
  have B0 : ∀ W, (Op.stringOp .add (⟨#[101, 100, 103, 101, 32]⟩ : ByteArray) cx1).run Tryd.prog W = .ok (.string b0) W := A0
  have B1 : ∀ W, (Op.stringOp .add b0 (⟨#[32]⟩ : ByteArray)).run Tryd.prog W = .ok (.string b1) W := A1
  have B2 : ∀ W, (Op.stringOp .add b1 cx2).run Tryd.prog W = .ok (.string b2) W := A2
  have B3 : ∀ W, (Op.stringOp .add b2 (⟨#[32]⟩ : ByteArray)).run Tryd.prog W = .ok (.string b3) W := A3
  have B4 : ∀ W, (Op.stringOp .add b3 cx3).run Tryd.prog W = .ok (.string b4) W := A4
  have B5 : ∀ W, (Op.stringOp .add b4 (⟨#[32]⟩ : ByteArray)).run Tryd.prog W = .ok (.string b5) W := A5
  have B6 : ∀ W, (Op.stringOp .add b5 cx4).run Tryd.prog W = .ok (.string b6) W := A6
  have B7 : ∀ W, (Op.stringOp .add b6 (⟨#[32]⟩ : ByteArray)).run Tryd.prog W = .ok (.string b7) W := A7
  have B8 : ∀ W, (Op.stringOp .add b7 cx5).run Tryd.prog W = .ok (.string b8) W := A8
  clear A0 A1 A2 A3 A4 A5 A6 A7 A8
  clear hz hL
  have HSS := Lib.hid (fun (W : World) (h : BxB w #[(.int .i64 kd), v1, v2, (.slice ah nh ch), (.int .i64 sv)] 47 W) => (⟨kcell h.p 0 _ rfl, kcell h.p 1 _ rfl, kcell h.p 2 _ rfl, kcell h.p 3 _ rfl, kcell h.p 4 _ rfl, h⟩ : W.cell? ⟨w.heap.size, 0, none⟩ = some (.int .i64 kd) ∧ W.cell? ⟨w.heap.size, 1, none⟩ = some v1 ∧ W.cell? ⟨w.heap.size, 2, none⟩ = some v2 ∧ W.cell? ⟨w.heap.size, 3, none⟩ = some (.slice ah nh ch) ∧ W.cell? ⟨w.heap.size, 4, none⟩ = some (.int .i64 sv) ∧ BxB w #[(.int .i64 kd), v1, v2, (.slice ah nh ch), (.int .i64 sv)] 47 W))
  have HW := Lib.hid (fun (W : World) (h : W.cell? ⟨w.heap.size, 0, none⟩ = some (.int .i64 kd) ∧ W.cell? ⟨w.heap.size, 1, none⟩ = some v1 ∧ W.cell? ⟨w.heap.size, 2, none⟩ = some v2 ∧ W.cell? ⟨w.heap.size, 3, none⟩ = some (.slice ah nh ch) ∧ W.cell? ⟨w.heap.size, 4, none⟩ = some (.int .i64 sv) ∧ BxB w #[(.int .i64 kd), v1, v2, (.slice ah nh ch), (.int .i64 sv)] 47 W) => hHW W h.2.2.2.2.2.below)
  have HN := Lib.hid (fun (W : World) (h : W.cell? ⟨w.heap.size, 0, none⟩ = some (.int .i64 kd) ∧ W.cell? ⟨w.heap.size, 1, none⟩ = some v1 ∧ W.cell? ⟨w.heap.size, 2, none⟩ = some v2 ∧ W.cell? ⟨w.heap.size, 3, none⟩ = some (.slice ah nh ch) ∧ W.cell? ⟨w.heap.size, 4, none⟩ = some (.int .i64 sv) ∧ BxB w #[(.int .i64 kd), v1, v2, (.slice ah nh ch), (.int .i64 sv)] 47 W) => hHN W h.2.2.2.2.2.below)
  have HM := Lib.hid (fun (W : World) (h : W.cell? ⟨w.heap.size, 0, none⟩ = some (.int .i64 kd) ∧ W.cell? ⟨w.heap.size, 1, none⟩ = some v1 ∧ W.cell? ⟨w.heap.size, 2, none⟩ = some v2 ∧ W.cell? ⟨w.heap.size, 3, none⟩ = some (.slice ah nh ch) ∧ W.cell? ⟨w.heap.size, 4, none⟩ = some (.int .i64 sv) ∧ BxB w #[(.int .i64 kd), v1, v2, (.slice ah nh ch), (.int .i64 sv)] 47 W) => hHM W h.2.2.2.2.2.below)
  have HI := Lib.hid (fun (W : World) (h : W.cell? ⟨w.heap.size, 0, none⟩ = some (.int .i64 kd) ∧ W.cell? ⟨w.heap.size, 1, none⟩ = some v1 ∧ W.cell? ⟨w.heap.size, 2, none⟩ = some v2 ∧ W.cell? ⟨w.heap.size, 3, none⟩ = some (.slice ah nh ch) ∧ W.cell? ⟨w.heap.size, 4, none⟩ = some (.int .i64 sv) ∧ BxB w #[(.int .i64 kd), v1, v2, (.slice ah nh ch), (.int .i64 sv)] 47 W) => hHI W h.2.2.2.2.2.below)
  have KS := Lib.hid (fun (W W' : World) (h : W.cell? ⟨w.heap.size, 0, none⟩ = some (.int .i64 kd) ∧ W.cell? ⟨w.heap.size, 1, none⟩ = some v1 ∧ W.cell? ⟨w.heap.size, 2, none⟩ = some v2 ∧ W.cell? ⟨w.heap.size, 3, none⟩ = some (.slice ah nh ch) ∧ W.cell? ⟨w.heap.size, 4, none⟩ = some (.int .i64 sv) ∧ BxB w #[(.int .i64 kd), v1, v2, (.slice ah nh ch), (.int .i64 sv)] 47 W) (hb : Below W.heap.size W W') => HSS.out W' (h.2.2.2.2.2.keep hb))
  have KD := Lib.hid (fun (W : World) (h : W.cell? ⟨w.heap.size, 0, none⟩ = some (.int .i64 kd) ∧ W.cell? ⟨w.heap.size, 1, none⟩ = some v1 ∧ W.cell? ⟨w.heap.size, 2, none⟩ = some v2 ∧ W.cell? ⟨w.heap.size, 3, none⟩ = some (.slice ah nh ch) ∧ W.cell? ⟨w.heap.size, 4, none⟩ = some (.int .i64 sv) ∧ BxB w #[(.int .i64 kd), v1, v2, (.slice ah nh ch), (.int .i64 sv)] 47 W) => HSS.out W.drew (h.2.2.2.2.2.keep (W' := W.drew) ⟨rfl, rfl, rfl, Nat.le_refl _, fun _ _ => rfl⟩))
  have hS0 := HSS.out _ (BxB.new w #[(.int .i64 kd), v1, v2, (.slice ah nh ch), (.int .i64 sv)] 47)
  clear hR hk HSS hHW hHN hHM hHI
  go_enter Tryd.func24, Tryd.ntmps24
  rcases hhost with ⟨hn0, hx⟩ | ⟨hn0, hc⟩
  · subst hn0
    subst hx
    go_wp2_with fail
    go_region_held3 (fun W => W.cell? ⟨w.heap.size, 0, none⟩ = some (.int .i64 kd) ∧ W.cell? ⟨w.heap.size, 1, none⟩ = some v1 ∧ W.cell? ⟨w.heap.size, 2, none⟩ = some v2 ∧ W.cell? ⟨w.heap.size, 3, none⟩ = some (.slice ah 0 ch) ∧ W.cell? ⟨w.heap.size, 4, none⟩ = some (.int .i64 sv) ∧ BxB w #[(.int .i64 kd), v1, v2, (.slice ah 0 ch), (.int .i64 sv)] 47 W)
      (first | with_reducible assumption | (with_reducible exact KD.out _ (by with_reducible assumption)))
      (first | ((with_reducible refine (HW.out _ (by with_reducible assumption)).mono ?_); rintro e w2 ⟨rfl, hb2⟩; have hS2 := KS.out _ _ (by with_reducible assumption) hb2) | ((with_reducible refine (HN.out _ (by with_reducible assumption)).mono ?_); rintro e w2 ⟨rfl, hb2⟩; have hS2 := KS.out _ _ (by with_reducible assumption) hb2) | ((with_reducible refine (HM.out _ (by with_reducible assumption)).mono ?_); rintro e w2 ⟨rfl, hb2⟩; have hS2 := KS.out _ _ (by with_reducible assumption) hb2) | ((with_reducible refine (HI.out _ (by with_reducible assumption)).mono ?_); rintro e w2 ⟨rfl, hb2⟩; have hS2 := KS.out _ _ (by with_reducible assumption) hb2))
    all_goals
      rename_i hSe
      go_wp2_with fail
      go_ret
      exact ⟨rfl, hSe.2.2.2.2.2.below⟩
  · go_wp2_with fail
    refine (hc _ hS0.2.2.2.2.2.below).mono ?_
    rintro e w3 ⟨rfl, hb3⟩
    have hS1 := KS.out _ _ hS0 hb3
    clear hS0 hb3 hc
    go_wp2_with fail
    go_region_held3 (fun W => W.cell? ⟨w.heap.size, 0, none⟩ = some (.int .i64 kd) ∧ W.cell? ⟨w.heap.size, 1, none⟩ = some v1 ∧ W.cell? ⟨w.heap.size, 2, none⟩ = some v2 ∧ W.cell? ⟨w.heap.size, 3, none⟩ = some (.slice ah nh ch) ∧ W.cell? ⟨w.heap.size, 4, none⟩ = some (.int .i64 sv) ∧ BxB w #[(.int .i64 kd), v1, v2, (.slice ah nh ch), (.int .i64 sv)] 47 W)
      (first | with_reducible assumption | (with_reducible exact KD.out _ (by with_reducible assumption)))
      (first | ((with_reducible refine (HW.out _ (by with_reducible assumption)).mono ?_); rintro e w2 ⟨rfl, hb2⟩; have hS2 := KS.out _ _ (by with_reducible assumption) hb2) | ((with_reducible refine (HN.out _ (by with_reducible assumption)).mono ?_); rintro e w2 ⟨rfl, hb2⟩; have hS2 := KS.out _ _ (by with_reducible assumption) hb2) | ((with_reducible refine (HM.out _ (by with_reducible assumption)).mono ?_); rintro e w2 ⟨rfl, hb2⟩; have hS2 := KS.out _ _ (by with_reducible assumption) hb2) | ((with_reducible refine (HI.out _ (by with_reducible assumption)).mono ?_); rintro e w2 ⟨rfl, hb2⟩; have hS2 := KS.out _ _ (by with_reducible assumption) hb2))
    all_goals
      rename_i hSe
      go_wp2_with fail
      go_ret
      exact ⟨rfl, hSe.2.2.2.2.2.below⟩
theorem SlAt.cellP {W W' : World} {a : Option Addr} {n c : Nat} {xs : List Value} (h : SlAt W (.slice a n c) xs) (hb : Below W.heap.size W W') (j : Nat) (hj : j < xs.length) :
    ∃ b off, a = some ⟨b, off, none⟩ ∧ b < W.heap.size ∧ W'.cell? ⟨b, off + j, none⟩ = some xs[j] := by
  obtain ⟨a', c', e, _, _, hx⟩ := h
  cases e
  rcases hx with e | ⟨b, off, ea, hlt, hc⟩
  · subst e; simp at hj
  · exact ⟨b, off, ea, hlt, (hb.cell (p := ⟨b, off + j, none⟩) hlt).trans (hc j hj)⟩
theorem take_map_snocP {α β : Type} (f : α → β) (l : List α) (k : Nat) (h : k < l.length) : (l.take k).map f ++ [f l[k]] = (l.take (k + 1)).map f := by
  rw [List.take_succ_eq_append_getElem h, List.map_append]; rfl
theorem str_nameP {y : List UInt8} {s : ByteArray} (h : s.data.toList = y) : (⟨y.toArray⟩ : ByteArray) = s := by rw [← h]
set_option maxHeartbeats 4000000 in
theorem text_picks (v : Value) (l : List Int) (w : World) (hA : SlAt w v (l.map fun p => .int .i64 p)) (hk : l.length ≤ 1000) (hI : ∀ p ∈ l, I64 p) (hT0 : Tab w) :
    Calls Tryd.prog 39 #[v] w fun e w' => e = .returned (.string ⟨(picksW l).toArray⟩) ∧ Below w.heap.size w w' := by
  obtain ⟨an, cn, rfl, _⟩ := id hA
  have hcell := fun W (hb : Below w.heap.size w W) j (hj : j < (l.map fun p => Value.int .i64 p).length) => hA.cellP hb j hj
  obtain ⟨n, hn⟩ : ∃ n, l.length = n := ⟨_, rfl⟩
  have HL := Lib.hid hn; have HI := Lib.hid hI
  have hnb : n ≤ 1000 := by omega
  rw [List.length_map, hn]
  clear hn hk hA hI
  by_cases h0 : n = 0
  · subst h0
    have e : l = [] := List.eq_nil_of_length_eq_zero HL.out
    subst e
    go_enter Tryd.func39, Tryd.ntmps39
    go_wp2
    go_ret
    exact ⟨rfl, Below.refl _ _⟩
  have hn0 : ((n : Int) == 0) = false := by simp; omega
  have hn1 : ¬ ((n : Int) = 0) := by omega
  have hne : l ≠ [] := fun e => by rw [e] at HL; have := HL.out; simp at this; omega
  have HP := Lib.hid (show picksW l = sepBy [44] (l.map Lib.itoa) from if_neg hne)
  clear hne
  go_enter Tryd.func39, Tryd.ntmps39
  go_wp2_with fail
  go_loopw [3, 11] (fun u i wr => ∃ (k : Nat) (done : Nm), i = .int .i64 k ∧ k ≤ n ∧ OwnG 9 strV wr w.heap.size u done ∧ Below w.heap.size w wr ∧ Hid (done = (l.take k).map Lib.itoa)) (fun _ i _ => n - (intOf i).toNat)
  case atStart => exact ⟨0, [], rfl, Nat.zero_le _, OwnG.nil _ _, Below.refl _ _, Lib.hid rfl⟩
  case round =>
    obtain ⟨k, done, rfl, hk0, hown, hB, HR⟩ := hrel
    obtain ⟨au, cu, rfl⟩ := hown.shape
    have hdk : done.length = k := by rw [HR.out]; simp [HL.out]; omega
    have HD := Lib.hid hdk; clear hdk
    generalize hdl : done.length = dl at *
    have HDL := Lib.hid hdl; clear hdl
    have hBz := hB.size
    by_cases hlt : k < n
    · have hkd : k < l.length := by rw [HL.out]; exact hlt
      obtain ⟨g, off, rfl, hg, hc⟩ := hcell wr hB k (by rw [List.length_map]; exact hkd)
      rw [List.getElem_map] at hc
      have hii := HI.out l[k] (List.getElem_mem hkd)
      have hT := strconv_Itoa l[k] hii.1 hii.2 wr (hT0.below hB)
      have hsn := take_map_snocP Lib.itoa l k hkd
      have hy' : ∃ y, Lib.itoa l[k] = y := ⟨_, rfl⟩
      obtain ⟨y, hy⟩ := hy'
      simp only [hy] at hsn
      rw [hy] at hT
      obtain ⟨sx, hy0, _, _⟩ := str_of y
      rw [str_nameP hy0] at hT
      clear hcell hy hii
      generalize l[k] = x at *
      have HC := Lib.hid (show [Value.string sx] = [y].map strV by rw [← hy0]; simp [strV])
      have HR2 := Lib.hid (show done ++ [y] = (l.take (k + 1)).map Lib.itoa by rw [HR.out]; exact hsn)
      clear hsn hy0 HR
      go_wp2_with (first | (go_at_call 37; refine hT.mono ?_; rintro e w2 ⟨rfl, hb2⟩) | (at_builtin; refine wpl_append_g w2 rfl (.tmp 15) (.tmp 18) elemStr rfl strV_one w.heap.size (.slice au dl cu) done rfl (hown.below hb2) [.string sx] [y] HC.out 1 1 rfl rfl (Nat.le_trans hBz hb2.size) (by have := HD.out; have := HDL.out; unfold maxLen; simp; omega) (by have := HD.out; have := HDL.out; simp; omega) ?_; intro v3 w3 hown3 hg3; have hB3 : Below w.heap.size w w3 := (hB.trans (hb2.mono hBz)).grown hg3 (Nat.le_trans hBz hb2.size) hown.base_le))
      go_roundw
      case rel => exact ⟨k + 1, done ++ [y], by go_num, by omega, hown3, hB3, HR2⟩
      case measure => simp [intOf]; omega
    · obtain rfl : k = n := by omega
      have H0 : Hid (done = l.map Lib.itoa) := Lib.hid (by rw [HR.out, List.take_of_length_le (by rw [HL.out]; exact Nat.le_refl _)])
      have hJ := join_nm (.slice au dl cu) done ⟨#[44]⟩ wr hown.nmAt (by have := HD.out; have := HDL.out; omega) (by
        have := sepBy_len [44] 20 done (fun x hx => by
          rw [H0.out] at hx
          obtain ⟨c, hc, rfl⟩ := List.mem_map.1 hx
          exact itoa_len c (HI.out c hc).1 (HI.out c hc).2)
        have e : (⟨#[44]⟩ : ByteArray).data.toList = [44] := rfl
        rw [e]
        have h1 := HD.out; have h2 := HDL.out
        simp only [List.length_singleton] at this
        omega)
      clear HR hcell
      go_wp2_with (go_at_call 48; refine hJ.mono ?_; rintro e w2 ⟨rfl, hb2⟩)
      go_ret
      exact ⟨by rw [HP.out, H0.out]; rfl, hB.trans (hb2.mono hBz)⟩
theorem picksW_len (l : List Int) (hk : l.length ≤ 1000) (hI : ∀ p ∈ l, I64 p) : (picksW l).length ≤ 1000000 := by
  unfold picksW; split
  · simp
  · have := sepBy_len [44] 20 (l.map Lib.itoa) (fun x hx => by
      obtain ⟨c, hc, rfl⟩ := List.mem_map.1 hx
      exact itoa_len c (hI c hc).1 (hI c hc).2)
    simp only [List.length_map, List.length_singleton] at this
    omega
set_option maxRecDepth 100000 in
set_option maxHeartbeats 8000000 in
theorem text_seenRow (cs : List Value) (f : Sn) (w : World) (hA : SnAt w cs f) (hk : SnOK f) (hT : Tab w) :
    Calls Tryd.prog 26 #[.agg cs.toArray] w fun e w' => e = .returned (.string ⟨(sRow f).toArray⟩) ∧ Below w.heap.size w w' := by
  obtain ⟨v1, v2, rfl, a1, a2⟩ := hA
  have hHW := fun W (hb : Below w.heap.size w W) => wd_below (rep_wordS f.kind hk.kind.1 hk.kind.2 W)
  have hHN := fun W (hb : Below w.heap.size w W) => kn_NText v1 f.nm _ rfl W (a1.below hb) hk.nm.1
  have hHT := fun W (hb : Below w.heap.size w W) => rtype_Text f.ty hk.ty.1 hk.ty.2 W (hT.below hb)
  have hHP := fun W (hb : Below w.heap.size w W) => text_picks v2 f.picks W (a2.below hb) hk.picks hk.pick (hT.below hb)
  have hR : sRow f = [115, 101, 101, 110, 32] ++ wS.getD f.kind.toNat [] ++ [32] ++ textN f.nm ++ [32] ++ typeTextM f.ty ++ [32] ++ picksW f.picks := rfl
  have l1 := wS_len f.kind.toNat
  have l2 := hk.nm.2
  have l3 := tyText_len f.ty hk.ty
  have l4 := picksW_len f.picks hk.picks hk.pick
  generalize sRow f = res at *
  generalize wS.getD f.kind.toNat [] = x1 at *
  generalize textN f.nm = x2 at *
  generalize typeTextM f.ty = x3 at *
  generalize picksW f.picks = x4 at *
  generalize f.kind = kd at *
  generalize f.ty = ty at *
  clear a1 a2 hT
  have hL : res.length ≤ 1000000000000 := by rw [hR]; simp only [List.length_append, List.length_cons, List.length_nil]; omega
  have hz := hL
  rw [hR] at hz
  simp only [List.length_append] at hz
  have A0 := add_rep ([115, 101, 101, 110, 32]) x1 ([115, 101, 101, 110, 32] ++ x1) rfl (by simp only [List.length_append]; omega)
  have A1 := add_rep ([115, 101, 101, 110, 32] ++ x1) [32] ([115, 101, 101, 110, 32] ++ x1 ++ [32]) rfl (by simp only [List.length_append]; omega)
  have A2 := add_rep ([115, 101, 101, 110, 32] ++ x1 ++ [32]) x2 ([115, 101, 101, 110, 32] ++ x1 ++ [32] ++ x2) rfl (by simp only [List.length_append]; omega)
  have A3 := add_rep ([115, 101, 101, 110, 32] ++ x1 ++ [32] ++ x2) [32] ([115, 101, 101, 110, 32] ++ x1 ++ [32] ++ x2 ++ [32]) rfl (by simp only [List.length_append]; omega)
  have A4 := add_rep ([115, 101, 101, 110, 32] ++ x1 ++ [32] ++ x2 ++ [32]) x3 ([115, 101, 101, 110, 32] ++ x1 ++ [32] ++ x2 ++ [32] ++ x3) rfl (by simp only [List.length_append]; omega)
  have A5 := add_rep ([115, 101, 101, 110, 32] ++ x1 ++ [32] ++ x2 ++ [32] ++ x3) [32] ([115, 101, 101, 110, 32] ++ x1 ++ [32] ++ x2 ++ [32] ++ x3 ++ [32]) rfl (by simp only [List.length_append]; omega)
  have A6 := add_rep ([115, 101, 101, 110, 32] ++ x1 ++ [32] ++ x2 ++ [32] ++ x3 ++ [32]) x4 res hR hL
  generalize (⟨res.toArray⟩ : ByteArray) = b6 at *
  generalize (⟨([115, 101, 101, 110, 32] ++ x1 ++ [32] ++ x2 ++ [32] ++ x3 ++ [32]).toArray⟩ : ByteArray) = b5 at *
  generalize (⟨([115, 101, 101, 110, 32] ++ x1 ++ [32] ++ x2 ++ [32] ++ x3).toArray⟩ : ByteArray) = b4 at *
  generalize (⟨([115, 101, 101, 110, 32] ++ x1 ++ [32] ++ x2 ++ [32]).toArray⟩ : ByteArray) = b3 at *
  generalize (⟨([115, 101, 101, 110, 32] ++ x1 ++ [32] ++ x2).toArray⟩ : ByteArray) = b2 at *
  generalize (⟨([115, 101, 101, 110, 32] ++ x1 ++ [32]).toArray⟩ : ByteArray) = b1 at *
  generalize (⟨([115, 101, 101, 110, 32] ++ x1).toArray⟩ : ByteArray) = b0 at *
  generalize (⟨x1.toArray⟩ : ByteArray) = cx1 at *
  generalize (⟨x2.toArray⟩ : ByteArray) = cx2 at *
  generalize (⟨x3.toArray⟩ : ByteArray) = cx3 at *
  generalize (⟨x4.toArray⟩ : ByteArray) = cx4 at *
  have B0 : ∀ W, (Op.stringOp .add (⟨#[115, 101, 101, 110, 32]⟩ : ByteArray) cx1).run Tryd.prog W = .ok (.string b0) W := A0
  have B1 : ∀ W, (Op.stringOp .add b0 (⟨#[32]⟩ : ByteArray)).run Tryd.prog W = .ok (.string b1) W := A1
  have B2 : ∀ W, (Op.stringOp .add b1 cx2).run Tryd.prog W = .ok (.string b2) W := A2
  have B3 : ∀ W, (Op.stringOp .add b2 (⟨#[32]⟩ : ByteArray)).run Tryd.prog W = .ok (.string b3) W := A3
  have B4 : ∀ W, (Op.stringOp .add b3 cx3).run Tryd.prog W = .ok (.string b4) W := A4
  have B5 : ∀ W, (Op.stringOp .add b4 (⟨#[32]⟩ : ByteArray)).run Tryd.prog W = .ok (.string b5) W := A5
  have B6 : ∀ W, (Op.stringOp .add b5 cx4).run Tryd.prog W = .ok (.string b6) W := A6
  clear A0 A1 A2 A3 A4 A5 A6
  clear hz hL
  have HSS := Lib.hid (fun (W : World) (h : BxB w #[(.int .i64 kd), v1, (.int .i64 ty), v2] 44 W) => (⟨kcell h.p 0 _ rfl, kcell h.p 1 _ rfl, kcell h.p 2 _ rfl, kcell h.p 3 _ rfl, h⟩ : W.cell? ⟨w.heap.size, 0, none⟩ = some (.int .i64 kd) ∧ W.cell? ⟨w.heap.size, 1, none⟩ = some v1 ∧ W.cell? ⟨w.heap.size, 2, none⟩ = some (.int .i64 ty) ∧ W.cell? ⟨w.heap.size, 3, none⟩ = some v2 ∧ BxB w #[(.int .i64 kd), v1, (.int .i64 ty), v2] 44 W))
  have HW := Lib.hid (fun (W : World) (h : W.cell? ⟨w.heap.size, 0, none⟩ = some (.int .i64 kd) ∧ W.cell? ⟨w.heap.size, 1, none⟩ = some v1 ∧ W.cell? ⟨w.heap.size, 2, none⟩ = some (.int .i64 ty) ∧ W.cell? ⟨w.heap.size, 3, none⟩ = some v2 ∧ BxB w #[(.int .i64 kd), v1, (.int .i64 ty), v2] 44 W) => hHW W h.2.2.2.2.below)
  have HN := Lib.hid (fun (W : World) (h : W.cell? ⟨w.heap.size, 0, none⟩ = some (.int .i64 kd) ∧ W.cell? ⟨w.heap.size, 1, none⟩ = some v1 ∧ W.cell? ⟨w.heap.size, 2, none⟩ = some (.int .i64 ty) ∧ W.cell? ⟨w.heap.size, 3, none⟩ = some v2 ∧ BxB w #[(.int .i64 kd), v1, (.int .i64 ty), v2] 44 W) => hHN W h.2.2.2.2.below)
  have HT := Lib.hid (fun (W : World) (h : W.cell? ⟨w.heap.size, 0, none⟩ = some (.int .i64 kd) ∧ W.cell? ⟨w.heap.size, 1, none⟩ = some v1 ∧ W.cell? ⟨w.heap.size, 2, none⟩ = some (.int .i64 ty) ∧ W.cell? ⟨w.heap.size, 3, none⟩ = some v2 ∧ BxB w #[(.int .i64 kd), v1, (.int .i64 ty), v2] 44 W) => hHT W h.2.2.2.2.below)
  have HP := Lib.hid (fun (W : World) (h : W.cell? ⟨w.heap.size, 0, none⟩ = some (.int .i64 kd) ∧ W.cell? ⟨w.heap.size, 1, none⟩ = some v1 ∧ W.cell? ⟨w.heap.size, 2, none⟩ = some (.int .i64 ty) ∧ W.cell? ⟨w.heap.size, 3, none⟩ = some v2 ∧ BxB w #[(.int .i64 kd), v1, (.int .i64 ty), v2] 44 W) => hHP W h.2.2.2.2.below)
  have KS := Lib.hid (fun (W W' : World) (h : W.cell? ⟨w.heap.size, 0, none⟩ = some (.int .i64 kd) ∧ W.cell? ⟨w.heap.size, 1, none⟩ = some v1 ∧ W.cell? ⟨w.heap.size, 2, none⟩ = some (.int .i64 ty) ∧ W.cell? ⟨w.heap.size, 3, none⟩ = some v2 ∧ BxB w #[(.int .i64 kd), v1, (.int .i64 ty), v2] 44 W) (hb : Below W.heap.size W W') => HSS.out W' (h.2.2.2.2.keep hb))
  have KD := Lib.hid (fun (W : World) (h : W.cell? ⟨w.heap.size, 0, none⟩ = some (.int .i64 kd) ∧ W.cell? ⟨w.heap.size, 1, none⟩ = some v1 ∧ W.cell? ⟨w.heap.size, 2, none⟩ = some (.int .i64 ty) ∧ W.cell? ⟨w.heap.size, 3, none⟩ = some v2 ∧ BxB w #[(.int .i64 kd), v1, (.int .i64 ty), v2] 44 W) => HSS.out W.drew (h.2.2.2.2.keep (W' := W.drew) ⟨rfl, rfl, rfl, Nat.le_refl _, fun _ _ => rfl⟩))
  have hS0 := HSS.out _ (BxB.new w #[(.int .i64 kd), v1, (.int .i64 ty), v2] 44)
  clear hR hk HSS hHW hHN hHT hHP
  go_enter Tryd.func26, Tryd.ntmps26
  go_wp2_with fail
  go_region_held3 (fun W => W.cell? ⟨w.heap.size, 0, none⟩ = some (.int .i64 kd) ∧ W.cell? ⟨w.heap.size, 1, none⟩ = some v1 ∧ W.cell? ⟨w.heap.size, 2, none⟩ = some (.int .i64 ty) ∧ W.cell? ⟨w.heap.size, 3, none⟩ = some v2 ∧ BxB w #[(.int .i64 kd), v1, (.int .i64 ty), v2] 44 W)
    (first | with_reducible assumption | (with_reducible exact KD.out _ (by with_reducible assumption)))
    (first | ((with_reducible refine (HW.out _ (by with_reducible assumption)).mono ?_); rintro e w2 ⟨rfl, hb2⟩; have hS2 := KS.out _ _ (by with_reducible assumption) hb2) | ((with_reducible refine (HN.out _ (by with_reducible assumption)).mono ?_); rintro e w2 ⟨rfl, hb2⟩; have hS2 := KS.out _ _ (by with_reducible assumption) hb2) | ((with_reducible refine (HT.out _ (by with_reducible assumption)).mono ?_); rintro e w2 ⟨rfl, hb2⟩; have hS2 := KS.out _ _ (by with_reducible assumption) hb2) | ((with_reducible refine (HP.out _ (by with_reducible assumption)).mono ?_); rintro e w2 ⟨rfl, hb2⟩; have hS2 := KS.out _ _ (by with_reducible assumption) hb2))
  all_goals
    rename_i hSe
    go_wp2_with fail
    go_ret
    exact ⟨rfl, hSe.2.2.2.2.below⟩
end Go.Proofs.YtbnkecmhmcligaaDoor

