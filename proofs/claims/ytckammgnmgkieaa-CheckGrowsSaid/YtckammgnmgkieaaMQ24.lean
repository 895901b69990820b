/-
  rset.belongs.
-/
import Derived.Test.YtckammgnmgkieaaMQ31
import Derived.Test.YtckammgnmgkieaaMQ33
import Derived.Test.YtckammgnmgkieaaMQ12
import Derived.Test.YtckammgnmgkieaaMQ29
import Derived.Test.YtckammgnmgkieaaMQ16
import Derived.Test.YtckammgnmgkieaaMQ41
import Derived.Test.YtckammgnmgkieaaMQ25
namespace Go.Proofs.Ytckammgnmgkieaa
set_option maxRecDepth 20000
open Go.RowKit Go.Shelf
set_option maxRecDepth 20000
set_option linter.unusedVariables false
set_option linter.unusedSimpArgs false

set_option maxRecDepth 100000 in
set_option maxHeartbeats 4000000 in
theorem rset_belongs (a0 : Option Addr) (n0 c0 : Nat) (a1 : Option Addr) (n1 c1 : Nat) (tt : Int) (o : Nm) (t : Int) (cs : List Value) (r : Rc) (w : World) (hO : NmAt w (.slice a0 n0 c0) o) (hko : NmOK o) (hA : RcAt w cs r) (hk : RcOK r) :
    Calls Try.prog 74 #[.agg #[.slice a0 n0 c0, .int .i64 t, .int .u32 tt, .slice a1 n1 c1], .agg cs.toArray] w fun e w' => e = .returned (.bool (belM o t r)) ∧ Below w.heap.size w w' := by
  have hsh := hA.shape
  obtain ⟨⟨p0, q0, k0⟩, ⟨p3, q3, k3⟩, ⟨p4, q4, k4⟩, ⟨p5, q5, k5⟩, ⟨p6, q6, k6⟩, e0⟩ := hsh
  simp only at e0
  subst e0
  have hA1 : NmAt w (.slice p0 q0 k0) r.owner := by
    obtain ⟨_, _, _, _, _, e5, g1, _⟩ := hA
    simp only [List.cons.injEq, and_true] at e5
    rw [e5.1]; exact g1
  have HN := Lib.hid (fun W (hb : Below w.heap.size w W) => kn_NSame (.slice p0 q0 k0) (.slice a0 n0 c0) r.owner o _ rfl W (hA1.below hb) (hO.below hb) hk.1 hko)
  have hR := Lib.hid (show belM o t r = (decide (r.data.ty = t) && sameN r.owner o) from rfl)
  generalize belM o t r = res at *
  generalize sameN r.owner o = q at *
  generalize r.data.ty = x at *
  generalize (r.ttl : Int) = tr at *
  have hb0 := fun o o' => ((Below.refl w.heap.size w).alloc (Nat.le_refl _) o).alloc (o := o') (by simp)
  have hbb := hb0 (Obj.cells #[.slice a0 n0 c0, .int .i64 t, .int .u32 tt, .slice a1 n1 c1] 64) (Obj.cells #[.slice p0 q0 k0, .int .u32 tr, .int .i64 x, .slice p3 q3 k3, .slice p4 q4 k4, .slice p5 q5 k5, .slice p6 q6 k6] 33)
  have hn := HN.out _ hbb
  have HBB := Lib.hid hbb
  clear hbb hb0 HN hA hA1 hO hko hk
  by_cases hx : x = t
  · subst hx
    have HR : Hid (res = q) := Lib.hid (by rw [hR.out]; simp)
    clear hR
    go_enter Try.func74, Try.ntmps74
    go_wp2_with fail
    refine hn.mono ?_
    rintro e w1 ⟨rfl, hb1⟩
    have HB1 := Lib.hid (HBB.out.trans (hb1.mono HBB.out.size))
    clear hb1 hn
    go_wp2
    go_ret
    exact ⟨by rw [HR.out]; rfl, HB1.out⟩
  · have HR : Hid (res = false) := Lib.hid (by rw [hR.out]; simp [hx])
    have hxb : (x == t) = false := by simpa using hx
    clear hR hn
    go_enter Try.func74, Try.ntmps74
    go_wp2
    go_ret
    exact ⟨by rw [HR.out]; rfl, HBB.out⟩
end Go.Proofs.Ytckammgnmgkieaa

/-
  rdata.readText.
-/
namespace Go.Proofs.Ytckammgnmgkieaa
set_option maxRecDepth 20000
open Go.RowKit Go.Shelf

theorem wpl_append_str {ops : Array Oper} {rest : List Oper} {o : Oper} {a : Act} {Q : Exit → Act → World → Prop} (W : World) (hgd : o.guard = none) (sl x : Operand)
    (ho : o.op = .call { callee := .builtin .append, args := #[sl, x], argTypes := #[29, 9] })
    (base : Nat) (v : Value) (xs : List UInt8) (hs : a.eval sl = v) (hown : OwnG 5 bv W base v xs) (s : ByteArray) (hx : a.eval x = .string s)
    (hbase : base ≤ W.heap.size) (hk : xs.length + s.size ≤ 140737488355328)
    (h : ∀ v' w', OwnG 5 bv w' base v' (xs ++ s.data.toList) → W.grownBy w' v.ownBlock → wpList Try.prog ops Q rest (a.put o.dst v') w') : wpList Try.prog ops Q (o :: rest) a W := by
  obtain ⟨i0, hi, hz0, hz1, hz2⟩ := info_parts info_u8
  refine wpList_plain hgd fun K hK => ?_
  obtain ⟨v', w', hr, h2, h3, h4⟩ := Lib.run_append_own_string (P := Try.prog) (w := W) base 29 9 o.type 5 i0 Try.underlying29 Try.underlying9 hi hz0 hz1 hz2 v xs.length (xs.map bv) hown s (by unfold maxLen; omega) hk hbase
  unfold Oper.wp
  simp [execOp, ho, resolve, invoke, builtin, hs, hx, hr, Result.andThen]
  refine hK _ _ (h v' w' ?_ h3)
  unfold OwnG
  rw [List.length_append, List.map_append, size_data]
  exact h2

/-- A text and an error. -/
def StrE (q : List UInt8 × Int) (w : World) (e : Ending) (w' : World) : Prop := e = .returned (.tuple #[.string ⟨q.1.toArray⟩, .int .i64 q.2]) ∧ Below w.heap.size w w'
theorem strE_fin {q : List UInt8 × Int} {w w' : World} {e : Ending} (l : List UInt8) (er : Int) (h : q = (l, er)) (he : e = .returned (.tuple #[.string ⟨l.toArray⟩, .int .i64 er])) (hb : Below w.heap.size w w') : StrE q w e w' := by
  subst h; exact ⟨he, hb⟩
theorem readText_err {l : List UInt8} {er : Int} (h : gscan tStep l = ([], er)) (h2 : er ≠ 0) : readTextM l = ([], er) := by unfold readTextM; rw [h, if_neg h2]
theorem gscan_out {k : Nat} {l xs : List UInt8} {er : Int} (HJ : gscan tStep l = join xs (gscan tStep (l.drop k))) (h0 : l.drop k ≠ []) (h1 : (tStep (l.drop k)).2.2 = er) (h2 : er ≠ 0) : gscan tStep l = ([], er) := by
  rw [HJ, gscan_err h0 (by rw [h1]; exact h2), h1]; unfold join; rw [if_neg h2]
theorem gscan_on {k : Nat} {l xs y : List UInt8} {sz : Nat} (HJ : gscan tStep l = join xs (gscan tStep (l.drop k))) (h0 : l.drop k ≠ []) (h1 : tStep (l.drop k) = (y, sz, 0)) : gscan tStep l = join (xs ++ y) (gscan tStep (l.drop (k + sz))) := by
  rw [HJ, gscan_ok tStep_ok h0 (by rw [h1]), h1, join_join, List.drop_drop]
theorem tStep_plain {s : ByteArray} {k : Nat} (hk : k < s.size) (h : ((s[k].toNat : Int) != 92) = true) : tStep (s.data.toList.drop k) = ([s[k]], 1, 0) := by
  rw [drop_cons_get s k hk]
  unfold tStep
  have : s[k] ≠ 92 := by
    intro e; rw [e] at h; revert h; decide
  simp only
  rw [if_pos this]
theorem tStep_stroke {s : ByteArray} {k sz : Nat} (hk : k < s.size) (h : ((s[k].toNat : Int) != 92) = false) (hz : tSize (s.data.toList.drop k) = sz) : tStep (s.data.toList.drop k) = ((parseM ((s.data.toList.drop k).take sz)).1, sz, (parseM ((s.data.toList.drop k).take sz)).2) := by
  subst hz
  rw [drop_cons_get s k hk]
  have e : s[k] = 92 := u8_92 h
  have e2 : ∀ (x : UInt8) r, tStep (x :: r) = if x ≠ 92 then ([x], 1, 0) else ((parseM ((x :: r).take (tSize (x :: r)))).1, tSize (x :: r), (parseM ((x :: r).take (tSize (x :: r)))).2) := fun _ _ => rfl
  rw [e2, if_neg (by rw [e]; simp)]
theorem tSize_one {s : ByteArray} {k : Nat} (hk : k < s.size) (h : s.size ≤ k + 1) : tSize (s.data.toList.drop k) = 1 := by
  rw [drop_cons_get s k hk, List.drop_of_length_le (by rw [size_data]; exact h)]; rfl
theorem tSize_two {s : ByteArray} {k : Nat} (hk : k + 1 < s.size) (h : digitU s[k + 1] = false) : tSize (s.data.toList.drop k) = 2 := by
  rw [drop_cons_get s k (by omega), drop_cons_get s (k + 1) hk]
  unfold tSize
  simp only [h, List.length_cons]
  simp <;> omega
theorem tSize_four {s : ByteArray} {k : Nat} (hk : k + 1 < s.size) (h : digitU s[k + 1] = true) : tSize (s.data.toList.drop k) = min 4 (s.size - k) := by
  have hl : (s.data.toList.drop k).length = s.size - k := by rw [List.length_drop, size_data]
  rw [← hl, drop_cons_get s k (by omega), drop_cons_get s (k + 1) hk]
  unfold tSize
  simp only [h, if_true]
theorem parseM_le (l : List UInt8) : (parseM l).1.length ≤ l.length := parseM_len l

end Go.Proofs.Ytckammgnmgkieaa

/-
  Data behind a pointer: rdata.readWord.
-/
namespace Go.Proofs.Ytckammgnmgkieaa
set_option maxRecDepth 20000
open Go.RowKit Go.Shelf
set_option maxRecDepth 20000

abbrev SlV := Option Addr × Nat × Nat
def slEnc (x : SlV) : Value := .slice x.1 x.2.1 x.2.2
theorem slEnc_one (x : SlV) : (slEnc x).oneCell' = true := rfl
theorem elemNames : ElemT 23 27 24 := ⟨Try.underlying27, _, _, rfl, rfl, rfl, rfl, rfl⟩
theorem OwnG.apart {α β : Type} {T T' : TypeId} {enc : α → Value} {enc' : β → Value} {W : World} {base base' : Nat} {v v' : Value} {xs : List α} {ys : List β} (h : OwnG T enc W base v xs) (h' : OwnG T' enc' W base' v' ys) (hT : T ≠ T') : v.ownBlock = none ∨ v.ownBlock ≠ v'.ownBlock := by
  rcases h.2 with ⟨rfl, _⟩ | ⟨g, cap, cur, rfl, _, hg, _⟩
  · left; rfl
  · right
    intro e
    exact h'.ne_block hg hT e
theorem OwnG.kept2 {α β : Type} {T T' : TypeId} {enc : α → Value} {enc' : β → Value} {W W' : World} {base base' : Nat} {v v' : Value} {xs : List α} {ys : List β} (h : OwnG T enc W base v xs) (h' : OwnG T' enc' W base' v' ys) (hT : T ≠ T') (hg : W.grownBy W' v'.ownBlock) : OwnG T enc W' base v xs :=
  h.kept hg (h.apart h' hT)
theorem block_set {W : World} {B : Nat} {cs : Array Value} {t : TypeId} (h : W.heap[B]? = some (.cells cs t)) (j : Nat) (v : Value) : (W.setCell ⟨B, j, none⟩ v).heap[B]? = some (.cells (cs.setIfInBounds j v) t) := by
  obtain ⟨hlt, hk⟩ := Array.getElem?_eq_some_iff.1 h
  show (W.heap.modify B _)[B]? = _
  rw [Array.getElem?_eq_getElem (by rw [Array.size_modify]; exact hlt), Array.getElem_modify_self, hk]
  rfl
theorem grownBy_set (W : World) (b j : Nat) (v : Value) : W.grownBy (W.setCell ⟨b, j, none⟩ v) (some b) :=
  ⟨rfl, rfl, rfl, (KeepsWalks.setCell W _ v).size, fun k _ hk => Below.heap_setCell _ _ _ k (fun e => hk (by rw [e]))⟩
theorem OwnG.keptB {α : Type} {T : TypeId} {enc : α → Value} {W : World} {base : Nat} {v : Value} {xs : List α} (h : OwnG T enc W base v xs) {B : Nat} {cs : Array Value} {t : TypeId} (hB : W.heap[B]? = some (.cells cs t)) (ht : t ≠ T) (j : Nat) (u : Value) : OwnG T enc (W.setCell ⟨B, j, none⟩ u) base v xs :=
  h.kept (grownBy_set W B j u) (.inr (fun e => h.ne_block hB ht e.symm))
theorem frozen_block {W : World} {B : Nat} {cs : Array Value} {t : TypeId} (h : W.heap[B]? = some (.cells cs t)) (j : Nat) : W.frozen? ⟨B, j, none⟩ = false := by simp [World.frozen?, h]
theorem block_lt {W : World} {B : Nat} {o : Obj} (h : W.heap[B]? = some o) : B < W.heap.size := (Array.getElem?_eq_some_iff.1 h).1

/-- A row of names of the call's own, each name a row of its own. -/
def OwnNms (W : World) (base : Nat) (v : Value) (ns : List Nm) : Prop := ∃ vs : List SlV, OwnG 23 slEnc W base v vs ∧ vs.length = ns.length ∧ ∀ j (h1 : j < vs.length) (h2 : j < ns.length), OwnG 9 strV W base (slEnc vs[j]) ns[j]
theorem OwnNms.below {W W' : World} {base : Nat} {v : Value} {ns : List Nm} (h : OwnNms W base v ns) (hb : Below W.heap.size W W') : OwnNms W' base v ns := by
  obtain ⟨vs, h1, h2, h3⟩ := h
  exact ⟨vs, h1.below hb, h2, fun j a b => (h3 j a b).below hb⟩
theorem OwnNms.nms {W : World} {base : Nat} {v : Value} {ns : List Nm} (h : OwnNms W base v ns) : NmsAt W v ns := by
  obtain ⟨vs, h1, h2, h3⟩ := h
  refine ⟨vs.map slEnc, SlAt.of_own h1, by rw [List.length_map]; exact h2, fun j hj => ?_⟩
  rw [List.getElem_map]
  exact (h3 j (by simpa using hj) (by rw [List.length_map] at hj; omega)).nmAt
theorem OwnNms.nil (W : World) (base : Nat) : OwnNms W base (.slice none 0 0) [] := ⟨[], OwnG.nil _ _, rfl, fun j h => by simp at h⟩
def DRow (W : World) (base : Nat) (vn vu vt vr : Value) (d : Dat) : Prop := OwnNms W base vn d.names ∧ OwnG 26 u32V W base vu d.nums ∧ OwnG 9 strV W base vt d.texts ∧ OwnG 5 bv W base vr d.raw
def DBox (W : World) (B base : Nat) (d : Dat) : Prop := ∃ vn vu vt vr, W.heap[B]? = some (.cells #[.int .i64 d.ty, vn, vu, vt, vr] 31) ∧ DRow W base vn vu vt vr d
theorem DRow.below {W W' : World} {base : Nat} {vn vu vt vr : Value} {d : Dat} (h : DRow W base vn vu vt vr d) (hb : Below W.heap.size W W') : DRow W' base vn vu vt vr d :=
  ⟨h.1.below hb, h.2.1.below hb, h.2.2.1.below hb, h.2.2.2.below hb⟩
theorem DRow.datAt {W : World} {base : Nat} {vn vu vt vr : Value} {d : Dat} (h : DRow W base vn vu vt vr d) : DatAt W (.agg #[.int .i64 d.ty, vn, vu, vt, vr]) d :=
  ⟨vn, vu, vt, vr, rfl, h.1.nms, SlAt.of_own h.2.1, h.2.2.1.nmAt, SlAt.of_own h.2.2.2⟩
theorem DBox.below {W W' : World} {B base : Nat} {d : Dat} (h : DBox W B base d) (hb : Below W.heap.size W W') : DBox W' B base d := by
  obtain ⟨vn, vu, vt, vr, h1, h2⟩ := h
  exact ⟨vn, vu, vt, vr, (hb.block B (block_lt h1)).trans h1, h2.below hb⟩
/-- Behind a store into a field. -/
theorem OwnNms.keptB {W : World} {base : Nat} {v : Value} {ns : List Nm} (h : OwnNms W base v ns) {B : Nat} {cs : Array Value} (hB : W.heap[B]? = some (.cells cs 31)) (j : Nat) (u : Value) : OwnNms (W.setCell ⟨B, j, none⟩ u) base v ns := by
  obtain ⟨vs, h1, h2, h3⟩ := h
  exact ⟨vs, h1.keptB hB (by decide) j u, h2, fun i a b => (h3 i a b).keptB hB (by decide) j u⟩
theorem OwnNms.kept2 {β : Type} {T' : TypeId} {enc' : β → Value} {W W' : World} {base base' : Nat} {v v' : Value} {ns : List Nm} {ys : List β} (h : OwnNms W base v ns) (h' : OwnG T' enc' W base' v' ys) (hT : 23 ≠ T') (hS : 9 ≠ T') (hg : W.grownBy W' v'.ownBlock) : OwnNms W' base v ns := by
  obtain ⟨vs, h1, h2, h3⟩ := h
  exact ⟨vs, h1.kept2 h' hT hg, h2, fun i a b => (h3 i a b).kept2 h' hS hg⟩
theorem DRow.set {W : World} {B base : Nat} {cs : Array Value} {vn vu vt vr : Value} {d : Dat} (h : DRow W base vn vu vt vr d) (hB : W.heap[B]? = some (.cells cs 31)) (j : Nat) (u : Value) : DRow (W.setCell ⟨B, j, none⟩ u) base vn vu vt vr d :=
  ⟨h.1.keptB hB j u, h.2.1.keptB hB (by decide) j u, h.2.2.1.keptB hB (by decide) j u, h.2.2.2.keptB hB (by decide) j u⟩

theorem add_110 (d : Dat) (s : List UInt8) (o : Nm) : addD d 110 s o = { d with names := d.names ++ [(parseN s o).1] } := rfl
theorem add_117 (d : Dat) (s : List UInt8) (o : Nm) : addD d 117 s o = { d with nums := d.nums ++ [(numM s 4294967295).1] } := rfl
theorem add_112 (d : Dat) (s : List UInt8) (o : Nm) : addD d 112 s o = { d with nums := d.nums ++ [(numM s 65535).1] } := rfl
theorem add_116 (d : Dat) (s : List UInt8) (o : Nm) : addD d 116 s o = { d with texts := d.texts ++ [(readTextM s).1] } := rfl
theorem add_52 (d : Dat) (s : List UInt8) (o : Nm) : addD d 52 s o = { d with raw := (addressM s).1 } := rfl
theorem add_54 (d : Dat) (s : List UInt8) (o : Nm) : addD d 54 s o = { d with raw := (groupsM s).1 } := rfl
/-- Other boxes of data lie as they lay. -/
def KeepW (B : Nat) (w w' : World) : Prop := ∀ (b : Nat) (cs : Array Value), b ≠ B → w.heap[b]? = some (Obj.cells cs 31) → w'.heap[b]? = some (Obj.cells cs 31)
theorem KeepW.refl (B : Nat) (w : World) : KeepW B w w := by intro x cs _ e; exact e
theorem KeepW.trans {B : Nat} {a b c : World} (h : KeepW B a b) (k : KeepW B b c) : KeepW B a c := by intro x cs n e; exact k x cs n (h x cs n e)
theorem KeepW.below {B : Nat} {w w' : World} (h : Below w.heap.size w w') : KeepW B w w' := by intro b cs _ e; exact (h.block b (block_lt e)).trans e
theorem KeepW.grown {B : Nat} {α : Type} {T : TypeId} {enc : α → Value} {w w' : World} {base : Nat} {v : Value} {xs : List α} (h : OwnG T enc w base v xs) (hT : 31 ≠ T) (hg : w.grownBy w' v.ownBlock) : KeepW B w w' := by
  intro b cs _ e; exact (hg.block b (block_lt e) (h.ne_block e hT)).trans e
theorem KeepW.set {w : World} {B : Nat} (j : Nat) (u : Value) : KeepW B w (w.setCell ⟨B, j, none⟩ u) := by
  intro b cs2 hb e
  exact ((grownBy_set w B j u).block b (block_lt e) (fun h => hb (by simpa using h))).trans e
/-- What readWord answers. -/
def WordPost (B base : Nat) (d : Dat) (er : Int) (w : World) (e : Ending) (w' : World) : Prop := e = .returned (.int .i64 er) ∧ DBox w' B base d ∧ Below base w w' ∧ KeepW B w w'

/-! ### the other kinds -/

end Go.Proofs.Ytckammgnmgkieaa

