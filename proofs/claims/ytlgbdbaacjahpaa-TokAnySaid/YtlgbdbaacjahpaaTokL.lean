/-
  The document's Lexer in memory: begin.
-/
import Derived.Test.YtlgbdbaacjahpaaTokS
namespace Go.Proofs.Ytlgbdbaacjahpaa
open Go.RowKit Go.Shelf
set_option maxRecDepth 20000

def RWs (W : World) (base : Nat) (v : Value) (l : List TW) : Prop := OwnK 2 38 encW W base v l
def REs (W : World) (base : Nat) (v : Value) (l : List Ent) : Prop := ∃ ds : List EntV, OwnK 3 35 encE W base v ds ∧ ds.length = l.length ∧
  ∀ j (h1 : j < ds.length) (h2 : j < l.length), ds[j].1 = l[j].line ∧ ds[j].2.1 = l[j].blank ∧ RWs W base (slE ds[j].2.2) l[j].words
def lCells (vo ve : Value) (y : LS) : Array Value := #[vo, .int .i64 (y.eline : Int), .bool y.eblank, ve, .bool y.on, .int .i64 (y.opn : Int), .int .i64 (y.first : Int), strV y.w, .bool y.inn]
def LRow (W : World) (base : Nat) (vo ve : Value) (y : LS) : Prop := REs W base vo y.out ∧ RWs W base ve y.ewords
def LBox (W : World) (B base : Nat) (y : LS) : Prop := ∃ vo ve, W.heap[B]? = some (.cells (lCells vo ve y) 54) ∧ LRow W base vo ve y
theorem REs.kept {W W' : World} {row : Option Nat} {base : Nat} {v : Value} {l : List Ent} (h : REs W base v l) (hg : W.grownBy W' row) (h1 : v.ownBlock = none ∨ v.ownBlock ≠ row) (h2 : ∀ u : Value, (∃ xs, RWs W base u xs) → (u.ownBlock = none ∨ u.ownBlock ≠ row)) : REs W' base v l := by
  obtain ⟨ds, g1, g2, g3⟩ := h
  refine ⟨ds, g1.kept hg h1, g2, fun j a b => ?_⟩
  obtain ⟨k1, k2, k3⟩ := g3 j a b
  exact ⟨k1, k2, OwnK.kept k3 hg (h2 _ ⟨_, k3⟩)⟩
theorem LRow.set {W : World} {B base : Nat} {cs : Array Value} {vo ve : Value} {y : LS} (h : LRow W base vo ve y) (hB : W.heap[B]? = some (.cells cs 54)) (j : Nat) (u : Value) : LRow (W.setCell ⟨B, j, none⟩ u) base vo ve y := by
  obtain ⟨h1, h2⟩ := h
  refine ⟨h1.kept (kgrown_set W B j u) ?_ ?_, OwnK.keptB h2 hB (by decide) j u⟩
  · obtain ⟨ds, g1, _⟩ := h1
    exact .inr (fun e => g1.ne_block hB (by decide) e.symm)
  · rintro v ⟨xs, hv⟩
    exact .inr (fun e => OwnK.ne_block hv hB (by decide) e.symm)
theorem LBox.below {W W' : World} {B base : Nat} {y : LS} (h : LBox W B base y) (hb : Below W.heap.size W W') : LBox W' B base y := by
  obtain ⟨vo, ve, h1, h2, h3⟩ := h
  refine ⟨vo, ve, (hb.block B (kblock_lt h1)).trans h1, ?_, OwnK.below h3 hb⟩
  obtain ⟨ds, g1, g2, g3⟩ := h2
  refine ⟨ds, g1.below hb, g2, fun j a b => ?_⟩
  obtain ⟨k1, k2, k3⟩ := g3 j a b
  exact ⟨k1, k2, OwnK.below k3 hb⟩
def LexPost (B base : Nat) (y : LS) (w : World) (e : Ending) (w' : World) : Prop := e = .returned (.tuple #[]) ∧ LBox w' B base y ∧ Below base w w'

set_option maxRecDepth 100000 in
set_option maxHeartbeats 4000000 in
theorem lex_begin (B base : Nat) (y : LS) (b : Bool) (w : World) (hS : LBox w B base y) (hBb : base ≤ B) :
    Calls Try.prog 18 #[.pointer (some ⟨B, 0, none⟩), .bool b] w (LexPost B base (lBegin b y) w) := by
  obtain ⟨vo, ve, hbx, hrow⟩ := hS
  have HB := Lib.hid hbx; have HR := Lib.hid hrow
  have hc4 := kcell hbx 4 (.bool y.on) rfl
  have hc2 := kcell hbx 2 (.bool y.eblank) rfl
  have hf4 := kfrozen hbx 4
  have hf2 := kfrozen hbx 2
  clear hbx hrow
  cases hon : y.on
  · rw [hon] at hc4
    have HO := Lib.hid hon
    clear hon
    go_enter Try.func18, Try.ntmps18
    go_wp2_with fail
    go_end0
    have h1 := kset HB.out 4 (.bool true)
    have e : lBegin b y = { y with on := true, eblank := b } := by unfold lBegin; rw [HO.out]; rfl
    rw [e]
    exact ⟨rfl, ⟨vo, ve, kset h1 2 _, LRow.set (LRow.set (y := { y with on := true, eblank := b }) HR.out HB.out 4 _) h1 2 _⟩, ((Below.refl base w).setCell (p := ⟨B, 4, none⟩) hBb _).setCell (p := ⟨B, 2, none⟩) hBb _⟩
  · rw [hon] at hc4
    have HO := Lib.hid hon
    clear hon
    go_enter Try.func18, Try.ntmps18
    go_wp2_with fail
    go_end0
    have e : lBegin b y = y := by unfold lBegin; rw [HO.out]; rfl
    rw [e]
    exact ⟨rfl, ⟨vo, ve, HB.out, HR.out⟩, Below.refl base w⟩
end Go.Proofs.Ytlgbdbaacjahpaa
