import Derived.Lib.AppendIntMem
import Derived.Lib.ItoaMem
import Derived.Lib.AppendStr
import Derived.IntWalk
import Derived.Outline
import Derived.Test.YtnpnfajgphpabaaGreatMQ35
import Derived.Test.YtnpnfajgphpabaaGreatMQ29
import Derived.Test.YtnpnfajgphpabaaGreatMQ36
namespace Go.Proofs.YtnpnfajgphpabaaGreat
set_option maxRecDepth 20000
open Go.RowKit Go.Shelf
abbrev SlV := Option Addr × Nat × Nat
def slEnc (x : SlV) : Value := .slice x.1 x.2.1 x.2.2
theorem qjv (x : SlV) : (slEnc x).oneCell' = true := rfl
theorem qjD : ElemT 23 40 24 := ⟨Tryz.underlying40, _, _, rfl, rfl, rfl, rfl, rfl⟩
theorem OwnG.apart {α β : Type} {T T' : TypeId} {enc : α → Value} {enc' : β → Value} {W : World} {base base' : Nat} {v v' : Value} {xs : List α} {ys : List β} (h : OwnG T enc W base v xs) (h' : OwnG T' enc' W base' v' ys) (hT : T ≠ T') : v.ownBlock = none ∨ v.ownBlock ≠ v'.ownBlock := by
 rcases h.2 with ⟨rfl, _⟩ | ⟨g, cap, cur, rfl, _, hg, _⟩
 ·left; rfl
 ·right
  intro e
  exact h'.ne_block hg hT e
theorem OwnG.kept2 {α β : Type} {T T' : TypeId} {enc : α → Value} {enc' : β → Value} {W W' : World} {base base' : Nat} {v v' : Value} {xs : List α} {ys : List β} (h : OwnG T enc W base v xs) (h' : OwnG T' enc' W base' v' ys) (hT : T ≠ T') (hg : W.grownBy W' v'.ownBlock) : OwnG T enc W' base v xs :=
 h.kept hg (h.apart h' hT)
theorem qak {W : World} {B : Nat} {cs : Array Value} {t : TypeId} (h : W.heap[B]? = some (.cells cs t)) (j : Nat) (v : Value) : (W.setCell ⟨B, j, none⟩ v).heap[B]? = some (.cells (cs.setIfInBounds j v) t) := by
 obtain ⟨hlt, hk⟩ := Array.getElem?_eq_some_iff.1 h
 show (W.heap.modify B _)[B]? = _
 rw [Array.getElem?_eq_getElem (by rw [Array.size_modify]; exact hlt), Array.getElem_modify_self, hk]
 rfl
theorem qaf (W : World) (b j : Nat) (v : Value) : W.grownBy (W.setCell ⟨b, j, none⟩ v) (some b) :=
 ⟨rfl, rfl, rfl, (KeepsWalks.setCell W _ v).size, fun k _ hk => Below.heap_setCell _ _ _ k (fun e => hk (by rw [e]))⟩
theorem OwnG.keptB {α : Type} {T : TypeId} {enc : α → Value} {W : World} {base : Nat} {v : Value} {xs : List α} (h : OwnG T enc W base v xs) {B : Nat} {cs : Array Value} {t : TypeId} (hB : W.heap[B]? = some (.cells cs t)) (ht : t ≠ T) (j : Nat) (u : Value) : OwnG T enc (W.setCell ⟨B, j, none⟩ u) base v xs :=
 h.kept (qaf W B j u) (.inr (fun e => h.ne_block hB ht e.symm))
theorem qa7 {W : World} {B : Nat} {cs : Array Value} {t : TypeId} (h : W.heap[B]? = some (.cells cs t)) (j : Nat) : W.frozen? ⟨B, j, none⟩ = false := by simp [World.frozen?, h]
theorem qbO {W : World} {B : Nat} {o : Obj} (h : W.heap[B]? = some o) : B < W.heap.size := (Array.getElem?_eq_some_iff.1 h).1
def OwnNms (W : World) (base : Nat) (v : Value) (ns : List Nm) : Prop := ∃ vs : List SlV, OwnG 23 slEnc W base v vs ∧ vs.length = ns.length ∧ ∀ j (h1 : j < vs.length) (h2 : j < ns.length), OwnG 9 strV W base (slEnc vs[j]) ns[j]
theorem OwnNms.below {W W' : World} {base : Nat} {v : Value} {ns : List Nm} (h : OwnNms W base v ns) (hb : Below W.heap.size W W') : OwnNms W' base v ns := by
 obtain ⟨vs, h1, h2, h3⟩ := h
 exact ⟨vs, h1.below hb, h2, fun j a b => (h3 j a b).below hb⟩
theorem OwnNms.nms {W : World} {base : Nat} {v : Value} {ns : List Nm} (h : OwnNms W base v ns) : NmsAt W v ns := by
 obtain ⟨vs, h1, h2, h3⟩ := h
 refine ⟨vs.map slEnc, SlAt.of_own h1, by rw [List.length_map]; exact h2, fun j hj => ?_⟩
 rw [List.getElem_map]
 exact (h3 j (by simpa using hj) (by rw [List.length_map] at hj; omega)).nmAt
theorem OwnNms.nil (W : World) (base : Nat) : OwnNms W base (.slice none 0 0) [] := ⟨[], OwnG.nil _ _, rfl, fun j h => by simp at h⟩
def DRow (W : World) (base : Nat) (vn vu vt vr : Value) (d : Dat) : Prop := OwnNms W base vn d.names ∧ OwnG 45 u32V W base vu d.nums ∧ OwnG 9 strV W base vt d.texts ∧ OwnG 5 bv W base vr d.raw
def DBox (W : World) (B base : Nat) (d : Dat) : Prop := ∃ vn vu vt vr, W.heap[B]? = some (.cells #[.int .i64 d.ty, vn, vu, vt, vr] 44) ∧ DRow W base vn vu vt vr d
theorem DRow.below {W W' : World} {base : Nat} {vn vu vt vr : Value} {d : Dat} (h : DRow W base vn vu vt vr d) (hb : Below W.heap.size W W') : DRow W' base vn vu vt vr d :=
 ⟨h.1.below hb, h.2.1.below hb, h.2.2.1.below hb, h.2.2.2.below hb⟩
theorem DRow.datAt {W : World} {base : Nat} {vn vu vt vr : Value} {d : Dat} (h : DRow W base vn vu vt vr d) : DatAt W (.agg #[.int .i64 d.ty, vn, vu, vt, vr]) d :=
 ⟨vn, vu, vt, vr, rfl, h.1.nms, SlAt.of_own h.2.1, h.2.2.1.nmAt, SlAt.of_own h.2.2.2⟩
theorem DBox.below {W W' : World} {B base : Nat} {d : Dat} (h : DBox W B base d) (hb : Below W.heap.size W W') : DBox W' B base d := by
 obtain ⟨vn, vu, vt, vr, h1, h2⟩ := h
 exact ⟨vn, vu, vt, vr, (hb.block B (qbO h1)).trans h1, h2.below hb⟩
theorem OwnNms.keptB {W : World} {base : Nat} {v : Value} {ns : List Nm} (h : OwnNms W base v ns) {B : Nat} {cs : Array Value} (hB : W.heap[B]? = some (.cells cs 44)) (j : Nat) (u : Value) : OwnNms (W.setCell ⟨B, j, none⟩ u) base v ns := by
 obtain ⟨vs, h1, h2, h3⟩ := h
 exact ⟨vs, h1.keptB hB (by decide) j u, h2, fun i a b => (h3 i a b).keptB hB (by decide) j u⟩
theorem OwnNms.kept2 {β : Type} {T' : TypeId} {enc' : β → Value} {W W' : World} {base base' : Nat} {v v' : Value} {ns : List Nm} {ys : List β} (h : OwnNms W base v ns) (h' : OwnG T' enc' W base' v' ys) (hT : 23 ≠ T') (hS : 9 ≠ T') (hg : W.grownBy W' v'.ownBlock) : OwnNms W' base v ns := by
 obtain ⟨vs, h1, h2, h3⟩ := h
 exact ⟨vs, h1.kept2 h' hT hg, h2, fun i a b => (h3 i a b).kept2 h' hS hg⟩
theorem DRow.set {W : World} {B base : Nat} {cs : Array Value} {vn vu vt vr : Value} {d : Dat} (h : DRow W base vn vu vt vr d) (hB : W.heap[B]? = some (.cells cs 44)) (j : Nat) (u : Value) : DRow (W.setCell ⟨B, j, none⟩ u) base vn vu vt vr d :=
 ⟨h.1.keptB hB j u, h.2.1.keptB hB (by decide) j u, h.2.2.1.keptB hB (by decide) j u, h.2.2.2.keptB hB (by decide) j u⟩
def KeepW (B : Nat) (w w' : World) : Prop := ∀ (b : Nat) (cs : Array Value), b ≠ B → w.heap[b]? = some (Obj.cells cs 44) → w'.heap[b]? = some (Obj.cells cs 44)
theorem KeepW.refl (B : Nat) (w : World) : KeepW B w w := by intro x cs _ e; exact e
theorem KeepW.trans {B : Nat} {a b c : World} (h : KeepW B a b) (k : KeepW B b c) : KeepW B a c := by intro x cs n e; exact k x cs n (h x cs n e)
theorem KeepW.below {B : Nat} {w w' : World} (h : Below w.heap.size w w') : KeepW B w w' := by intro b cs _ e; exact (h.block b (qbO e)).trans e
theorem KeepW.grown {B : Nat} {α : Type} {T : TypeId} {enc : α → Value} {w w' : World} {base : Nat} {v : Value} {xs : List α} (h : OwnG T enc w base v xs) (hT : 44 ≠ T) (hg : w.grownBy w' v.ownBlock) : KeepW B w w' := by
 intro b cs _ e; exact (hg.block b (qbO e) (h.ne_block e hT)).trans e
theorem KeepW.set {w : World} {B : Nat} (j : Nat) (u : Value) : KeepW B w (w.setCell ⟨B, j, none⟩ u) := by
 intro b cs2 hb e
 exact ((qaf w B j u).block b (qbO e) (fun h => hb (by simpa using h))).trans e
end Go.Proofs.YtnpnfajgphpabaaGreat
