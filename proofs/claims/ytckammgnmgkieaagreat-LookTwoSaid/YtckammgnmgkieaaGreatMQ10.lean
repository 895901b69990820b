/-
  zone.downward and its iterator.
-/
import Derived.Test.YtckammgnmgkieaaGreatMQ41
import Derived.Test.YtckammgnmgkieaaGreatMQ30
import Derived.Test.YtckammgnmgkieaaGreatMQ28
import Derived.Shelf.Small.Bits
import Derived.Shelf.Small.Wraps
import Derived.Shelf.Strconv.Itoa0
import Derived.Shelf.Sort.Plain
import Derived.Ground.Names2Prog
import Derived.Shelf.Slices.Clone
import Derived.Shelf.Slices.CompactI
import Derived.Shelf.Slices.Cells
import Derived.Shelf.Slices.In.SortNone
import Derived.Test.YtckammgnmgkieaaGreatProg
import Derived.Lib.Split
import Derived.Lib.Repeat
import Derived.Test.YtckammgnmgkieaaGreatMQ36
import Derived.Lib.AppendIntMem
import Derived.Lib.ItoaMem
import Derived.Test.YtckammgnmgkieaaGreatMQ27
import Derived.Test.YtckammgnmgkieaaGreatMQ14
import Derived.IntWalk
import Derived.Outline
import Derived.Deep.RegionHeld3
import Derived.Deep.AppendLies
import Derived.StillTailTactics
namespace Go.Proofs.YtckammgnmgkieaaGreat
set_option maxRecDepth 20000
open Go.RowKit Go.Shelf
set_option maxRecDepth 20000
set_option linter.unusedVariables false
set_option linter.unusedSimpArgs false
theorem nm_len {W : World} {a : Option Addr} {n c : Nat} {xs : Nm} (h : NmAt W (.slice a n c) xs) : n = xs.length := by
  obtain ⟨a', c', e, -⟩ := nmAt_sl.1 h
  injection e with _ e _
  rw [e, List.length_map]
theorem nm_cap {W : World} {a : Option Addr} {n c : Nat} {xs : Nm} (h : NmAt W (.slice a n c) xs) : n ≤ c := by
  obtain ⟨a', n', c', e, h1, _⟩ := h.2
  cases e; exact h1
theorem nm_anc {W : World} {g off q c : Nat} {n : Nm} (h : NmAt W (.slice (some ⟨g, off, none⟩) q c) n) {s : Nat} (h1 : 1 ≤ s) (h2 : s ≤ q) : NmAt W (.slice (some ⟨g, off + (q - s), none⟩) s (c - (q - s))) (n.drop (q - s)) := by
  have hq := nm_len h
  have hc := nm_cap h
  have h0 := h.1
  subst hq
  have hd := strs_drop h0 hc (n.length - s) (by omega) (c - (n.length - s))
  rw [if_neg (by omega), show n.length - (n.length - s) = s by omega] at hd
  exact ⟨hd, ⟨_, _, _, rfl, by omega, fun e => by cases e⟩⟩
theorem finRange_prefix {N : Nat} {p : List (Fin N)} {x : Fin N} (h : p ++ [x] <+: List.finRange N) : x.val = p.length ∧ ∀ j : Fin N, j.val < x.val → j ∈ p := by
  obtain ⟨t, ht⟩ := h
  have hx : (List.finRange N)[p.length]? = some x := by rw [← ht]; simp
  have hxv : x.val = p.length := by
    obtain ⟨h1, h2⟩ := List.getElem?_eq_some_iff.1 hx
    rw [← h2]; simp
  refine ⟨hxv, fun j hj => ?_⟩
  have h1 : (List.finRange N)[j.val]? = some j := by simp
  have h2 : (List.finRange N)[j.val]? = p[j.val]? := by
    rw [← ht, List.append_assoc, List.getElem?_append_left (by omega)]
  rw [h2] at h1
  exact List.mem_of_getElem? h1
def dnV {N : Nat} (g off len c least : Nat) (x : Fin N) : Array Value := #[.slice (some ⟨g, off + (len - (least + x.val)), none⟩) (least + x.val) (c - (len - (least + x.val)))]
theorem zone_downward (least : Nat) (a : Option Addr) (n c : Nat) (w : World) :
    Calls Tryz.prog 71 #[.int .i64 (least : Int), .slice a n c] w fun e w' => e = .returned (.func (.func 126) #[] #[.pointer (some ⟨w.heap.size, 0, none⟩), .pointer (some ⟨w.heap.size + 1, 0, none⟩)]) ∧ w' = (w.alloc (.cells #[.int .i64 (least : Int)] 3)).alloc (.cells #[.slice a n c] 24) := by
  go_enter Tryz.func71, Tryz.ntmps71
  go_wp2
  go_ret
  exact ⟨rfl, rfl⟩
section
attribute [local go_sem] Oper.semAt_some
set_option maxRecDepth 100000 in
set_option maxHeartbeats 2000000 in
theorem downward1_in (n : Nat) (hn : 1 ≤ n) (l b1 b2 : Nat) (a : Option Addr) (g off len c least N : Nat) (hN : N = len + 1 - least) (hle : 1 ≤ least) (ha : N = 0 ∨ a = some ⟨g, off, none⟩) (hc : len ≤ c) (hs : len ≤ 1048576) (hs2 : least ≤ 1048577) (J Jx : List (Fin N) → World → Prop)
    (hY : ∀ pre x W, J pre W → pre.length < N → YieldAt Fence.wide (n - 1) Tryz.prog l (dnV g off len c least x) W fun e W' =>
      (e = .returned (.bool true) ∧ J (pre ++ [x]) W' ∧ KeepB b2 W W') ∨ (e = .returned (.bool false) ∧ Jx (pre ++ [x]) W'))
    (W : World) (hc1 : W.cell? ⟨b1, 0, none⟩ = some (.int .i64 (least : Int))) (hc2 : W.cell? ⟨b2, 0, none⟩ = some (.slice a len c)) (h0 : J [] W) :
    CallsIn Fence.wide n Tryz.prog 126 #[.func (.yield l) #[] #[], .pointer (some ⟨b1, 0, none⟩), .pointer (some ⟨b2, 0, none⟩)] W fun e W' => (∃ v, e = .returned v) ∧
      ((∃ ys, ys = List.finRange N ∧ J ys W') ∨ (∃ pre, pre <+: List.finRange N ∧ Jx pre W')) := by
  have HNN := Lib.hid hN; have HAA := Lib.hid ha
  clear hN ha
  refine callsIn_of_wp Tryz.func126 rfl trivial ?_ rfl
  simp only [Tryz.ntmps126, List.size_toArray, List.length_cons, List.length_nil, Nat.reduceAdd, Nat.reduceSub, Array.replicate_succ, Array.replicate_zero, List.push_toArray, List.append_toArray, List.nil_append, List.cons_append]
  gi_wp2
  gi_loopw [4] (fun i wr => ∃ k : Nat, k ≤ N ∧ i = .int .i64 ((least + k : Nat) : Int) ∧ J ((List.finRange N).take k) wr ∧ KeepB b2 W wr)
    (fun i _ => ((len : Int) + 1 - intOf i).toNat)
  case atStart => exact ⟨0, Nat.zero_le _, rfl, h0, KeepB.refl _ _⟩
  case round =>
    obtain ⟨k, hk, rfl, hJs, hnx⟩ := hrel
    obtain ⟨s, hs⟩ : ∃ s, least + k = s := ⟨_, rfl⟩
    have HS := Lib.hid hs
    rw [hs]
    clear hs
    have hcb : wr.cell? ⟨b2, 0, none⟩ = some (.slice a len c) := hnx.cell.trans hc2
    by_cases hlt : k < N
    · have hsl : (s : Int) ≤ (len : Int) := by have := HS.out; have := HNN.out; omega
      have hs1 : 1 ≤ s := by have := HS.out; omega
      obtain rfl : a = some ⟨g, off, none⟩ := by
        rcases HAA.out with h | h
        · omega
        · exact h
      obtain ⟨d, hd⟩ : ∃ d, d + s = len := ⟨len - s, by omega⟩
      have hsub : (len : Int) - (s : Int) = (d : Int) := by omega
      have hdl : (d : Int) ≤ (len : Int) := by omega
      have hcd : ¬ c = d := by omega
      have hln : len - d = s := by omega
      obtain ⟨fn, tmps, assign, body, hy, hR⟩ := hY _ ⟨k, hlt⟩ wr hJs (by simp; omega)
      have hv : dnV g off len c least (⟨k, hlt⟩ : Fin N) = #[.slice (some ⟨g, off + d, none⟩) s (c - d)] := by
        unfold dnV
        simp only
        rw [HS.out, show len - s = d by omega]
      rw [hv] at hy
      have HD := Lib.hid hd
      clear hv hd
      gi_wp2
      refine hR.mono ?_
      rintro e W3 (⟨rfl, hJ3, hk3⟩ | ⟨rfl, hJx3⟩)
      · gi_wp2
        go_roundw
        case rel => exact ⟨k + 1, by omega, by congr 1; have := HS.out; omega, by rw [finRange_take_succ hlt]; exact hJ3, hnx.trans hk3⟩
        case measure => simp [intOf]; omega
      · gi_wp2
        refine bodyPost_ret (results_none rfl _ _ _) rfl ?_
        exact ⟨⟨_, rfl⟩, .inr ⟨_, by rw [← finRange_take_succ hlt]; exact List.take_prefix _ _, hJx3⟩⟩
    · obtain rfl : k = N := by omega
      have hsl : ¬ (s : Int) ≤ (len : Int) := by have := HS.out; have := HNN.out; omega
      rw [List.take_of_length_le (by simp)] at hJs
      gi_wp2
      go_end0
      first
        | exact ⟨⟨_, rfl⟩, .inl hJs⟩
        | exact ⟨⟨_, rfl⟩, .inl ⟨_, rfl, hJs⟩⟩
theorem downward_stops (n : Nat) (hn : 1 ≤ n) (b1 b2 : Nat) (a : Option Addr) (g off len c least N : Nat) (hN : N = len + 1 - least) (hle : 1 ≤ least) (ha : N = 0 ∨ a = some ⟨g, off, none⟩) (hc : len ≤ c) (hs : len ≤ 1048576) (hs2 : least ≤ 1048577) (w : World) (h1 : b1 < w.heap.size) (h2 : b2 < w.heap.size)
    (hc1 : w.cell? ⟨b1, 0, none⟩ = some (.int .i64 (least : Int))) (hc2 : w.cell? ⟨b2, 0, none⟩ = some (.slice a len c)) :
    SeqStopsK Fence.wide n Tryz.prog 126 #[.pointer (some ⟨b1, 0, none⟩), .pointer (some ⟨b2, 0, none⟩)] (dnV (N := N) g off len c least) (KeepB b2) (fun ys => ys = List.finRange N) (fun pre => pre <+: List.finRange N) N w := fun l J Jx W hW _ _ hY h0 =>
  downward1_in n hn l b1 b2 a g off len c least N hN hle ha hc hs hs2 J Jx hY W ((hW.cell (p := ⟨b1, 0, none⟩) h1).trans hc1) ((hW.cell (p := ⟨b2, 0, none⟩) h2).trans hc2) h0
end
end Go.Proofs.YtckammgnmgkieaaGreat

/-
  Words of data as they lie in memory; small laws that rdata's readers use: strings.Split at one octet, slices of octets.
-/
namespace Go.Proofs.YtckammgnmgkieaaGreat
set_option maxRecDepth 20000
open Go.RowKit Go.Shelf
set_option maxRecDepth 20000

def WdsAt (W : World) (v : Value) (l : List Wd) : Prop :=
  ∃ a c, v = .slice a l.length c ∧ l.length ≤ c ∧ (a = none → c = 0) ∧ (l = [] ∨ ∃ b off, a = some ⟨b, off, none⟩ ∧ b < W.heap.size ∧ ∀ j (hj : j < l.length), W.cell? ⟨b, off + j * 2, none⟩ = some (strV l[j].1) ∧ W.cell? ⟨b, off + j * 2 + 1, none⟩ = some (.bool l[j].2))
theorem WdsAt.below {W W' : World} {v : Value} {l : List Wd} (h : WdsAt W v l) (hb : Below W.heap.size W W') : WdsAt W' v l := by
  obtain ⟨a, c, e, h1, h2, h⟩ := h
  refine ⟨a, c, e, h1, h2, ?_⟩
  rcases h with h | ⟨b, off, ea, hlt, hc⟩
  · exact .inl h
  · exact .inr ⟨b, off, ea, Nat.lt_of_lt_of_le hlt hb.size, fun j hj => ⟨(hb.cell (p := ⟨b, off + j * 2, none⟩) hlt).trans (hc j hj).1, (hb.cell (p := ⟨b, off + j * 2 + 1, none⟩) hlt).trans (hc j hj).2⟩⟩
theorem WdsAt.cell {W W' : World} {a : Option Addr} {n c : Nat} {l : List Wd} (h : WdsAt W (.slice a n c) l) (hb : Below W.heap.size W W') (j : Nat) (hj : j < l.length) :
    ∃ b off, a = some ⟨b, off, none⟩ ∧ b < W.heap.size ∧ W'.cell? ⟨b, off + j * 2, none⟩ = some (strV l[j].1) ∧ W'.cell? ⟨b, off + j * 2 + 1, none⟩ = some (.bool l[j].2) := by
  obtain ⟨a', c', e, _, _, h⟩ := h
  cases e
  rcases h with h | ⟨b, off, ea, hlt, hc⟩
  · subst h; simp at hj
  · exact ⟨b, off, ea, hlt, (hb.cell (p := ⟨b, off + j * 2, none⟩) hlt).trans (hc j hj).1, (hb.cell (p := ⟨b, off + j * 2 + 1, none⟩) hlt).trans (hc j hj).2⟩
def WdsOK (l : List Wd) : Prop := l.length ≤ 1048576 ∧ ∀ x ∈ l, x.1.length ≤ 500000
end Go.Proofs.YtckammgnmgkieaaGreat

/-
  rdata.form, rdata.readHalves.
-/
namespace Go.Proofs.YtckammgnmgkieaaGreat
set_option maxRecDepth 20000
open Go.RowKit Go.Shelf

theorem OwnG.ne_block {α : Type} {T : TypeId} {enc : α → Value} {W : World} {base : Nat} {v : Value} {xs : List α} (h : OwnG T enc W base v xs) {B : Nat} {cs : Array Value} {t : TypeId} (hB : W.heap[B]? = some (.cells cs t)) (ht : t ≠ T) : some B ≠ v.ownBlock := by
  rcases h.2 with ⟨rfl, _⟩ | ⟨g, cap, cur, rfl, _, hg, _⟩
  · simp [Value.ownBlock]
  · intro e
    obtain rfl : B = g := by simpa [Value.ownBlock] using e
    rw [hg] at hB
    cases hB
    exact ht rfl
theorem block_new (W : World) (o : Obj) : (W.alloc o).heap[W.heap.size]? = some o := by
  show (W.heap.push o)[W.heap.size]? = some o
  simp
theorem cell_of_block {W : World} {B : Nat} {cs : Array Value} {t : TypeId} (h : W.heap[B]? = some (.cells cs t)) (j : Nat) (v : Value) (hv : cs[j]? = some v) : W.cell? ⟨B, j, none⟩ = some v := by
  simp only [World.cell?, h]
  simpa using hv
end Go.Proofs.YtckammgnmgkieaaGreat

/-
  Data behind a pointer: rdata.readWord.
-/
namespace Go.Proofs.YtckammgnmgkieaaGreat
set_option maxRecDepth 20000
open Go.RowKit Go.Shelf
set_option maxRecDepth 20000

abbrev SlV := Option Addr × Nat × Nat
def slEnc (x : SlV) : Value := .slice x.1 x.2.1 x.2.2
theorem slEnc_one (x : SlV) : (slEnc x).oneCell' = true := rfl
theorem elemNames : ElemT 24 42 24 := ⟨Tryz.underlying42, _, _, rfl, rfl, rfl, rfl, rfl⟩
theorem OwnG.apart {α β : Type} {T T' : TypeId} {enc : α → Value} {enc' : β → Value} {W : World} {base base' : Nat} {v v' : Value} {xs : List α} {ys : List β} (h : OwnG T enc W base v xs) (h' : OwnG T' enc' W base' v' ys) (hT : T ≠ T') : v.ownBlock = none ∨ v.ownBlock ≠ v'.ownBlock := by
  rcases h.2 with ⟨rfl, _⟩ | ⟨g, cap, cur, rfl, _, hg, _⟩
  · left; rfl
  · right
    intro e
    exact h'.ne_block hg hT e
theorem OwnG.kept2 {α β : Type} {T T' : TypeId} {enc : α → Value} {enc' : β → Value} {W W' : World} {base base' : Nat} {v v' : Value} {xs : List α} {ys : List β} (h : OwnG T enc W base v xs) (h' : OwnG T' enc' W base' v' ys) (hT : T ≠ T') (hg : W.grownBy W' v'.ownBlock) : OwnG T enc W' base v xs :=
  h.kept hg (h.apart h' hT)
theorem block_set {W : World} {B : Nat} {cs : Array Value} {t : TypeId} (h : W.heap[B]? = some (.cells cs t)) (j : Nat) (v : Value) : (W.setCell ⟨B, j, none⟩ v).heap[B]? = some (.cells (cs.setIfInBounds j v) t) := by
  obtain ⟨hlt, hk⟩ := Array.getElem?_eq_some_iff.1 h
  show (W.heap.modify B _)[B]? = _
  rw [Array.getElem?_eq_getElem (by rw [Array.size_modify]; exact hlt), Array.getElem_modify_self, hk]
  rfl
theorem grownBy_set (W : World) (b j : Nat) (v : Value) : W.grownBy (W.setCell ⟨b, j, none⟩ v) (some b) :=
  ⟨rfl, rfl, rfl, (KeepsWalks.setCell W _ v).size, fun k _ hk => Below.heap_setCell _ _ _ k (fun e => hk (by rw [e]))⟩
theorem OwnG.keptB {α : Type} {T : TypeId} {enc : α → Value} {W : World} {base : Nat} {v : Value} {xs : List α} (h : OwnG T enc W base v xs) {B : Nat} {cs : Array Value} {t : TypeId} (hB : W.heap[B]? = some (.cells cs t)) (ht : t ≠ T) (j : Nat) (u : Value) : OwnG T enc (W.setCell ⟨B, j, none⟩ u) base v xs :=
  h.kept (grownBy_set W B j u) (.inr (fun e => h.ne_block hB ht e.symm))
theorem frozen_block {W : World} {B : Nat} {cs : Array Value} {t : TypeId} (h : W.heap[B]? = some (.cells cs t)) (j : Nat) : W.frozen? ⟨B, j, none⟩ = false := by simp [World.frozen?, h]
theorem block_lt {W : World} {B : Nat} {o : Obj} (h : W.heap[B]? = some o) : B < W.heap.size := (Array.getElem?_eq_some_iff.1 h).1

def OwnNms (W : World) (base : Nat) (v : Value) (ns : List Nm) : Prop := ∃ vs : List SlV, OwnG 24 slEnc W base v vs ∧ vs.length = ns.length ∧ ∀ j (h1 : j < vs.length) (h2 : j < ns.length), OwnG 9 strV W base (slEnc vs[j]) ns[j]
theorem OwnNms.below {W W' : World} {base : Nat} {v : Value} {ns : List Nm} (h : OwnNms W base v ns) (hb : Below W.heap.size W W') : OwnNms W' base v ns := by
  obtain ⟨vs, h1, h2, h3⟩ := h
  exact ⟨vs, h1.below hb, h2, fun j a b => (h3 j a b).below hb⟩
theorem OwnNms.nms {W : World} {base : Nat} {v : Value} {ns : List Nm} (h : OwnNms W base v ns) : NmsAt W v ns := by
  obtain ⟨vs, h1, h2, h3⟩ := h
  refine ⟨vs.map slEnc, SlAt.of_own h1, by rw [List.length_map]; exact h2, fun j hj => ?_⟩
  rw [List.getElem_map]
  exact (h3 j (by simpa using hj) (by rw [List.length_map] at hj; omega)).nmAt
theorem OwnNms.nil (W : World) (base : Nat) : OwnNms W base (.slice none 0 0) [] := ⟨[], OwnG.nil _ _, rfl, fun j h => by simp at h⟩
def DRow (W : World) (base : Nat) (vn vu vt vr : Value) (d : Dat) : Prop := OwnNms W base vn d.names ∧ OwnG 35 u32V W base vu d.nums ∧ OwnG 9 strV W base vt d.texts ∧ OwnG 5 bv W base vr d.raw
def DBox (W : World) (B base : Nat) (d : Dat) : Prop := ∃ vn vu vt vr, W.heap[B]? = some (.cells #[.int .i64 d.ty, vn, vu, vt, vr] 101) ∧ DRow W base vn vu vt vr d
theorem DRow.below {W W' : World} {base : Nat} {vn vu vt vr : Value} {d : Dat} (h : DRow W base vn vu vt vr d) (hb : Below W.heap.size W W') : DRow W' base vn vu vt vr d :=
  ⟨h.1.below hb, h.2.1.below hb, h.2.2.1.below hb, h.2.2.2.below hb⟩
theorem DRow.datAt {W : World} {base : Nat} {vn vu vt vr : Value} {d : Dat} (h : DRow W base vn vu vt vr d) : DatAt W (.agg #[.int .i64 d.ty, vn, vu, vt, vr]) d :=
  ⟨vn, vu, vt, vr, rfl, h.1.nms, SlAt.of_own h.2.1, h.2.2.1.nmAt, SlAt.of_own h.2.2.2⟩
theorem DBox.below {W W' : World} {B base : Nat} {d : Dat} (h : DBox W B base d) (hb : Below W.heap.size W W') : DBox W' B base d := by
  obtain ⟨vn, vu, vt, vr, h1, h2⟩ := h
  exact ⟨vn, vu, vt, vr, (hb.block B (block_lt h1)).trans h1, h2.below hb⟩
theorem OwnNms.keptB {W : World} {base : Nat} {v : Value} {ns : List Nm} (h : OwnNms W base v ns) {B : Nat} {cs : Array Value} (hB : W.heap[B]? = some (.cells cs 101)) (j : Nat) (u : Value) : OwnNms (W.setCell ⟨B, j, none⟩ u) base v ns := by
  obtain ⟨vs, h1, h2, h3⟩ := h
  exact ⟨vs, h1.keptB hB (by decide) j u, h2, fun i a b => (h3 i a b).keptB hB (by decide) j u⟩
theorem OwnNms.kept2 {β : Type} {T' : TypeId} {enc' : β → Value} {W W' : World} {base base' : Nat} {v v' : Value} {ns : List Nm} {ys : List β} (h : OwnNms W base v ns) (h' : OwnG T' enc' W base' v' ys) (hT : 24 ≠ T') (hS : 9 ≠ T') (hg : W.grownBy W' v'.ownBlock) : OwnNms W' base v ns := by
  obtain ⟨vs, h1, h2, h3⟩ := h
  exact ⟨vs, h1.kept2 h' hT hg, h2, fun i a b => (h3 i a b).kept2 h' hS hg⟩
theorem DRow.set {W : World} {B base : Nat} {cs : Array Value} {vn vu vt vr : Value} {d : Dat} (h : DRow W base vn vu vt vr d) (hB : W.heap[B]? = some (.cells cs 101)) (j : Nat) (u : Value) : DRow (W.setCell ⟨B, j, none⟩ u) base vn vu vt vr d :=
  ⟨h.1.keptB hB j u, h.2.1.keptB hB (by decide) j u, h.2.2.1.keptB hB (by decide) j u, h.2.2.2.keptB hB (by decide) j u⟩

def KeepW (B : Nat) (w w' : World) : Prop := ∀ (b : Nat) (cs : Array Value), b ≠ B → w.heap[b]? = some (Obj.cells cs 101) → w'.heap[b]? = some (Obj.cells cs 101)
theorem KeepW.refl (B : Nat) (w : World) : KeepW B w w := by intro x cs _ e; exact e
theorem KeepW.trans {B : Nat} {a b c : World} (h : KeepW B a b) (k : KeepW B b c) : KeepW B a c := by intro x cs n e; exact k x cs n (h x cs n e)
theorem KeepW.below {B : Nat} {w w' : World} (h : Below w.heap.size w w') : KeepW B w w' := by intro b cs _ e; exact (h.block b (block_lt e)).trans e
theorem KeepW.grown {B : Nat} {α : Type} {T : TypeId} {enc : α → Value} {w w' : World} {base : Nat} {v : Value} {xs : List α} (h : OwnG T enc w base v xs) (hT : 101 ≠ T) (hg : w.grownBy w' v.ownBlock) : KeepW B w w' := by
  intro b cs _ e; exact (hg.block b (block_lt e) (h.ne_block e hT)).trans e
theorem KeepW.set {w : World} {B : Nat} (j : Nat) (u : Value) : KeepW B w (w.setCell ⟨B, j, none⟩ u) := by
  intro b cs2 hb e
  exact ((grownBy_set w B j u).block b (block_lt e) (fun h => hb (by simpa using h))).trans e
end Go.Proofs.YtckammgnmgkieaaGreat

/-
  rdata.readOctets.
-/
namespace Go.Proofs.YtckammgnmgkieaaGreat
set_option maxRecDepth 20000
open Go.RowKit Go.Shelf

theorem WdsAt.drop {W : World} {g off n c : Nat} {l : List Wd} (h : WdsAt W (.slice (some ⟨g, off, none⟩) n c) l) (hn : l.length = n) (h1 : 1 ≤ n) :
    WdsAt W (.slice (if c = 1 then some ⟨g, off, none⟩ else some ⟨g, off + 2, none⟩) (n - 1) (c - 1)) (l.drop 1) := by
  obtain ⟨a, c', e, h2, h3, h⟩ := h
  rw [Value.slice.injEq] at e
  obtain ⟨rfl, _, rfl⟩ := e
  refine ⟨_, _, by rw [List.length_drop, hn], by rw [List.length_drop, hn]; omega, ?_, ?_⟩
  · intro h; split at h <;> cases h
  · rcases h with h | ⟨b, o, e, hb, hcell⟩
    · subst h; simp at hn; omega
    · rw [Option.some.injEq] at e
      cases e
      by_cases h4 : c = 1
      · left; exact List.eq_nil_of_length_eq_zero (by rw [List.length_drop]; omega)
      · right
        rw [if_neg h4]
        refine ⟨g, off + 2, rfl, hb, fun j hj => ?_⟩
        have hj' : j + 1 < l.length := by rw [List.length_drop] at hj; omega
        have := hcell (j + 1) hj'
        rw [show off + (j + 1) * 2 = off + 2 + j * 2 by omega] at this
        rw [List.getElem_drop]
        simp only [Nat.add_comm 1 j]
        exact this
theorem WdsOK.drop {l : List Wd} (h : WdsOK l) (k : Nat) : WdsOK (l.drop k) := ⟨by have := h.1; rw [List.length_drop]; omega, fun x hx => h.2 x (List.mem_of_mem_drop hx)⟩
end Go.Proofs.YtckammgnmgkieaaGreat

/-
  rdata.Parse.
-/
namespace Go.Proofs.YtckammgnmgkieaaGreat
set_option maxRecDepth 20000
open Go.RowKit Go.Shelf
set_option maxRecDepth 20000

def set5 (W : World) (R : Nat) (x0 x1 x2 x3 x4 : Value) : World := ((((W.setCell ⟨R, 0, none⟩ x0).setCell ⟨R, 1, none⟩ x1).setCell ⟨R, 2, none⟩ x2).setCell ⟨R, 3, none⟩ x3).setCell ⟨R, 4, none⟩ x4
theorem set5_below {w W : World} {R : Nat} (hb : Below R w W) (x0 x1 x2 x3 x4 : Value) : Below R w (set5 W R x0 x1 x2 x3 x4) :=
  ((((hb.setCell (p := ⟨R, 0, none⟩) (Nat.le_refl _) x0).setCell (p := ⟨R, 1, none⟩) (Nat.le_refl _) x1).setCell (p := ⟨R, 2, none⟩) (Nat.le_refl _) x2).setCell (p := ⟨R, 3, none⟩) (Nat.le_refl _) x3).setCell (p := ⟨R, 4, none⟩) (Nat.le_refl _) x4
end Go.Proofs.YtckammgnmgkieaaGreat

/-
  rdata.Check.
-/
namespace Go.Proofs.YtckammgnmgkieaaGreat
set_option maxRecDepth 20000
open Go.RowKit Go.Shelf
set_option maxRecDepth 20000

theorem longT_not {l : Nm} {k : Nat} (hk : k < l.length) (h : 255 < l[k].length) : longT l = true := by
  unfold longT; rw [List.any_eq_true]; exact ⟨_, List.getElem_mem hk, by simpa using h⟩
theorem longT_snoc (l : Nm) (x : List UInt8) : longT (l ++ [x]) = (longT l || decide (255 < x.length)) := by simp [longT]
theorem headD_get (l : List Nat) (h : 0 < l.length) : l.headD 0 = l[0] := by
  cases l with
  | nil => simp at h
  | cons a r => rfl
def CheckPost (d : Dat) (w : World) (e : Ending) (w' : World) : Prop := e = .returned (.int .i64 (checkD d)) ∧ Below w.heap.size w w'
theorem check_fin {d : Dat} {w w' : World} {e : Ending} (er : Int) (h : checkD d = er) (he : e = .returned (.int .i64 er)) (hb : Below w.heap.size w w') : CheckPost d w e w' := by
  subst h; exact ⟨he, hb⟩
theorem checkD_type {d : Dat} (h : d.ty < 1 ∨ 65535 < d.ty) : checkD d = 6 := by unfold checkD; rw [if_pos h]
theorem checkD_count {d : Dat} (h : ¬ (d.ty < 1 ∨ 65535 < d.ty)) (h2 : countedM d = false) : checkD d = 2 := by unfold checkD; rw [if_neg h, if_pos h2]
theorem checkD_rest {d : Dat} (h : ¬ (d.ty < 1 ∨ 65535 < d.ty)) (h2 : countedM d = true) : checkD d = if checkNs d.names ≠ 0 then checkNs d.names else if d.ty = 15 ∧ 65535 < d.nums.headD 0 then 7 else if longT d.texts then 3 else if 1024 < d.raw.length then 3 else 0 := by
  unfold checkD; rw [if_neg h, if_neg (by rw [h2]; simp)]
end Go.Proofs.YtckammgnmgkieaaGreat

