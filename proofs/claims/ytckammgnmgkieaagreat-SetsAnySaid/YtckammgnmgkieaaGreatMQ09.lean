/-
  The shelf's contracts at this dump that the proofs of this seat use (cut out of what the kit's lay-plain writes).
-/
import Derived.Shelf.Small.Bits
import Derived.Shelf.Strconv.Itoa0
import Derived.Shelf.Sort.Plain
import Derived.Shelf.Slices.Turned
import Derived.Ground.Names2Prog
import Derived.Shelf.Slices.Clone
import Derived.Shelf.Slices.CompactI
import Derived.Shelf.Slices.SearchI
import Derived.Shelf.Slices.Cells
import Derived.Shelf.Slices.In.SortNone
import Derived.Test.YtckammgnmgkieaaGreatProg
import Derived.Test.YtckammgnmgkieaaGreatMQ01
import Derived.Test.YtckammgnmgkieaaGreatMQ38
import Derived.Test.YtckammgnmgkieaaGreatMQ39
import Derived.Lib.Split
import Derived.Lib.Repeat
import Derived.Test.YtckammgnmgkieaaGreatMQ19
import Derived.Test.YtckammgnmgkieaaGreatMQ20
import Derived.Test.YtckammgnmgkieaaGreatMQ12
import Derived.Lib.AppendIntMem
import Derived.Deep.RegionHeld3
import Derived.Deep.AppendLies
import Derived.Outline
import Derived.IntWalk
import Derived.Test.YtckammgnmgkieaaGreatMQ18
import Derived.Laws.AppendOwnNone
import Derived.Lib.Walk
import Derived.Lib.SliceRun
namespace Go.Proofs
open Go.Shelf
def Tryz.lays189_ren : Go.Shelf.Ren := ⟨fun | 189 => 65 | 125 => 122 | 257 => 121 | 128 => 166 | 129 => 167 | 294 => 157 | 295 => 158 | 296 => 159 | 297 => 160 | 298 => 161 | 299 => 162 | 216 => 163 | 300 => 164 | 301 => 165 | 328 => 189 | 329 => 190 | 330 => 191 | 331 => 192 | 332 => 193 | 215 => 169 | 343 => 210 | n => n, fun | 28 => 51 | 3 => 3 | 46 => 180 | 0 => 0 | 51 => 35 | 53 => 219 | 4 => 4 | 183 => 210 | 182 => 209 | 131 => 215 | 5 => 5 | 9 => 9 | 218 => 234 | 222 => 238 | 228 => 263 | 229 => 264 | n => n, fun | n => n⟩
theorem Tryz.lays189 : Go.Proofs.Lays.n189 Tryz.prog Tryz.lays189_ren := {
  mixed := by kernel_rfl
  f125 := Tryz.func122.trans (congrArg some (by kernel_rfl))
  f128 := Tryz.func166.trans (congrArg some (by kernel_rfl))
  f129 := Tryz.func167.trans (congrArg some (by kernel_rfl))
  f189 := Tryz.func65.trans (congrArg some (by kernel_rfl))
  f215 := Tryz.func169.trans (congrArg some (by kernel_rfl))
  f216 := Tryz.func163.trans (congrArg some (by kernel_rfl))
  f257 := Tryz.func121.trans (congrArg some (by kernel_rfl))
  f294 := Tryz.func157.trans (congrArg some (by kernel_rfl))
  f295 := Tryz.func158.trans (congrArg some (by kernel_rfl))
  f296 := Tryz.func159.trans (congrArg some (by kernel_rfl))
  f297 := Tryz.func160.trans (congrArg some (by kernel_rfl))
  f298 := Tryz.func161.trans (congrArg some (by kernel_rfl))
  f299 := Tryz.func162.trans (congrArg some (by kernel_rfl))
  f300 := Tryz.func164.trans (congrArg some (by kernel_rfl))
  f301 := Tryz.func165.trans (congrArg some (by kernel_rfl))
  f328 := Tryz.func189.trans (congrArg some (by kernel_rfl))
  f329 := Tryz.func190.trans (congrArg some (by kernel_rfl))
  f330 := Tryz.func191.trans (congrArg some (by kernel_rfl))
  f331 := Tryz.func192.trans (congrArg some (by kernel_rfl))
  f332 := Tryz.func193.trans (congrArg some (by kernel_rfl))
  f343 := Tryz.func210.trans (congrArg some (by kernel_rfl))
  t0 := Tryz.underlying0
  a0 := Tryz.isAgg0
  z0 := Tryz.sizeOf0
  v0 := Tryz.zeroValue0
  t3 := Tryz.underlying3
  a3 := Tryz.isAgg3
  z3 := Tryz.sizeOf3
  v3 := Tryz.zeroValue3
  t4 := Tryz.underlying4
  a4 := Tryz.isAgg4
  z4 := Tryz.sizeOf4
  v4 := Tryz.zeroValue4
  t5 := Tryz.underlying5
  a5 := Tryz.isAgg5
  z5 := Tryz.sizeOf5
  v5 := Tryz.zeroValue5
  t9 := Tryz.underlying9
  a9 := Tryz.isAgg9
  z9 := Tryz.sizeOf9
  v9 := Tryz.zeroValue9
  t28 := Tryz.underlying51
  a28 := Tryz.isAgg51
  z28 := Tryz.sizeOf51
  v28 := Tryz.zeroValue51
  t46 := Tryz.underlying180
  a46 := Tryz.isAgg180
  z46 := Tryz.sizeOf180
  v46 := Tryz.zeroValue180
  t51 := Tryz.underlying35
  a51 := Tryz.isAgg35
  z51 := Tryz.sizeOf35
  v51 := Tryz.zeroValue35
  t53 := Tryz.underlying219
  a53 := Tryz.isAgg219
  z53 := Tryz.sizeOf219
  v53 := Tryz.zeroValue219
  t131 := Tryz.underlying215
  a131 := Tryz.isAgg215
  z131 := Tryz.sizeOf215
  v131 := Tryz.zeroValue215
  t182 := Tryz.underlying209
  a182 := Tryz.isAgg209
  z182 := Tryz.sizeOf209
  v182 := Tryz.zeroValue209
  t183 := Tryz.underlying210
  a183 := Tryz.isAgg210
  z183 := Tryz.sizeOf210
  v183 := Tryz.zeroValue210
  t218 := Tryz.underlying234
  a218 := Tryz.isAgg234
  z218 := Tryz.sizeOf234
  v218 := Tryz.zeroValue234
  t222 := Tryz.underlying238
  a222 := Tryz.isAgg238
  z222 := Tryz.sizeOf238
  v222 := Tryz.zeroValue238
  t228 := Tryz.underlying263
  a228 := Tryz.isAgg263
  z228 := Tryz.sizeOf263
  v228 := Tryz.zeroValue263
  t229 := Tryz.underlying264
  a229 := Tryz.isAgg264
  z229 := Tryz.sizeOf264
  v229 := Tryz.zeroValue264 }
open Go.Sort Go.RowKit in
theorem Tryz.slices_Sort_int (blk off cap : Nat) (zs : List Int) (w : World) (hH : Holds (Value.int .i64) w blk off zs.toArray) (hblk : blk < w.heap.size) (hsz : zs.length < 4611686018427387904) :
    Calls Tryz.prog 65 #[.slice (some ⟨blk, off, none⟩) zs.length cap] w fun e w' =>
      e = .returned (.tuple #[]) ∧ ∃ n os, w' = grow (putRow (Value.int .i64) (Sort.ahead w n) blk off (zs.mergeSort fun x y => decide (x ≤ y)).toArray) os := Any.slices_Sort_int Tryz.lays189 blk off cap zs w hH hblk hsz
open Go.Lib in
def Tryz.laysNm220_ren : Go.Shelf.Ren := ⟨fun | 20 => 66 | n => n, fun | 22 => 51 | 3 => 3 | 4 => 4 | 0 => 0 | n => n, fun | n => n⟩
theorem Tryz.laysNm220 : Go.Proofs.Lays2.n20 Tryz.prog Tryz.laysNm220_ren := {
  mixed := by kernel_rfl
  f20 := Tryz.func66.trans (congrArg some (by kernel_rfl))
  t0 := Tryz.underlying0
  a0 := Tryz.isAgg0
  z0 := Tryz.sizeOf0
  v0 := Tryz.zeroValue0
  t3 := Tryz.underlying3
  a3 := Tryz.isAgg3
  z3 := Tryz.sizeOf3
  v3 := Tryz.zeroValue3
  t4 := Tryz.underlying4
  a4 := Tryz.isAgg4
  z4 := Tryz.sizeOf4
  v4 := Tryz.zeroValue4
  t22 := Tryz.underlying51
  a22 := Tryz.isAgg51
  z22 := Tryz.sizeOf51
  v22 := Tryz.zeroValue51
  i3 := by kernel_rfl }
open Go.RowKit Go.Lib Go.Sort in
theorem Tryz.slices_Compact_int (blk off cap : Nat) (zs : List Int) (w : World) (hH : Holds (Value.int .i64) w blk off zs.toArray) (hsz : zs.length ≤ 9223372036854775807) (hcap : zs.length ≤ cap) :
    Calls Tryz.prog 66 #[.slice (some ⟨blk, off, none⟩) zs.length cap] w fun e w' => e = .returned (.slice (some ⟨blk, off, none⟩) (Lib.compact zs).length cap) ∧ ∃ q, w' = putRow (Value.int .i64) (Sort.ahead w q) blk off (Lib.compact zs ++ List.replicate (zs.length - (Lib.compact zs).length) 0).toArray := Any.slices_Compact_int Tryz.laysNm220 blk off cap zs w hH hsz hcap
open Go.RowKit Go.Lib Go.Sort in
theorem Tryz.slices_Compact_int_empty (a : Option Addr) (cap : Nat) (w : World) :
    Calls Tryz.prog 66 #[.slice a 0 cap] w fun e w' => e = .returned (.slice a 0 cap) ∧ w' = w := Any.slices_Compact_int_empty Tryz.laysNm220 a cap w
end Go.Proofs

/-
  Words of data as they lie in memory; small laws that rdata's readers use: strings.Split at one octet, slices of octets.
-/
namespace Go.Proofs.YtckammgnmgkieaaGreat
set_option maxRecDepth 20000
open Go.RowKit Go.Shelf
set_option maxRecDepth 20000

def WdsAt (W : World) (v : Value) (l : List Wd) : Prop :=
  ∃ a c, v = .slice a l.length c ∧ l.length ≤ c ∧ (a = none → c = 0) ∧ (l = [] ∨ ∃ b off, a = some ⟨b, off, none⟩ ∧ b < W.heap.size ∧ ∀ j (hj : j < l.length), W.cell? ⟨b, off + j * 2, none⟩ = some (strV l[j].1) ∧ W.cell? ⟨b, off + j * 2 + 1, none⟩ = some (.bool l[j].2))
theorem WdsAt.below {W W' : World} {v : Value} {l : List Wd} (h : WdsAt W v l) (hb : Below W.heap.size W W') : WdsAt W' v l := by
  obtain ⟨a, c, e, h1, h2, h⟩ := h
  refine ⟨a, c, e, h1, h2, ?_⟩
  rcases h with h | ⟨b, off, ea, hlt, hc⟩
  · exact .inl h
  · exact .inr ⟨b, off, ea, Nat.lt_of_lt_of_le hlt hb.size, fun j hj => ⟨(hb.cell (p := ⟨b, off + j * 2, none⟩) hlt).trans (hc j hj).1, (hb.cell (p := ⟨b, off + j * 2 + 1, none⟩) hlt).trans (hc j hj).2⟩⟩
theorem WdsAt.cell {W W' : World} {a : Option Addr} {n c : Nat} {l : List Wd} (h : WdsAt W (.slice a n c) l) (hb : Below W.heap.size W W') (j : Nat) (hj : j < l.length) :
    ∃ b off, a = some ⟨b, off, none⟩ ∧ b < W.heap.size ∧ W'.cell? ⟨b, off + j * 2, none⟩ = some (strV l[j].1) ∧ W'.cell? ⟨b, off + j * 2 + 1, none⟩ = some (.bool l[j].2) := by
  obtain ⟨a', c', e, _, _, h⟩ := h
  cases e
  rcases h with h | ⟨b, off, ea, hlt, hc⟩
  · subst h; simp at hj
  · exact ⟨b, off, ea, hlt, (hb.cell (p := ⟨b, off + j * 2, none⟩) hlt).trans (hc j hj).1, (hb.cell (p := ⟨b, off + j * 2 + 1, none⟩) hlt).trans (hc j hj).2⟩
def WdsOK (l : List Wd) : Prop := l.length ≤ 1048576 ∧ ∀ x ∈ l, x.1.length ≤ 500000
end Go.Proofs.YtckammgnmgkieaaGreat

/-
  rdata.form, rdata.readHalves.
-/
namespace Go.Proofs.YtckammgnmgkieaaGreat
set_option maxRecDepth 20000
open Go.RowKit Go.Shelf

theorem OwnG.ne_block {α : Type} {T : TypeId} {enc : α → Value} {W : World} {base : Nat} {v : Value} {xs : List α} (h : OwnG T enc W base v xs) {B : Nat} {cs : Array Value} {t : TypeId} (hB : W.heap[B]? = some (.cells cs t)) (ht : t ≠ T) : some B ≠ v.ownBlock := by
  rcases h.2 with ⟨rfl, _⟩ | ⟨g, cap, cur, rfl, _, hg, _⟩
  · simp [Value.ownBlock]
  · intro e
    obtain rfl : B = g := by simpa [Value.ownBlock] using e
    rw [hg] at hB
    cases hB
    exact ht rfl
theorem block_new (W : World) (o : Obj) : (W.alloc o).heap[W.heap.size]? = some o := by
  show (W.heap.push o)[W.heap.size]? = some o
  simp
theorem cell_of_block {W : World} {B : Nat} {cs : Array Value} {t : TypeId} (h : W.heap[B]? = some (.cells cs t)) (j : Nat) (v : Value) (hv : cs[j]? = some v) : W.cell? ⟨B, j, none⟩ = some v := by
  simp only [World.cell?, h]
  simpa using hv
end Go.Proofs.YtckammgnmgkieaaGreat

/-
  Package rtype: Text, Known, Parse.
-/
namespace Go.Proofs.YtckammgnmgkieaaGreat
set_option maxRecDepth 20000
open Go.RowKit Go.Shelf

def Tab (W : World) : Prop := Lib.TabIs Tryz.prog W "internal/strconv.uint64pow10" .u64 Lib.pow10Tab
theorem Tab.below {W W' : World} (h : Tab W) (hb : Below W.heap.size W W') : Tab W' := (Lib.tabBelow_of_tabIs h) W' hb
end Go.Proofs.YtckammgnmgkieaaGreat

/-
  rdata.readOctets.
-/
namespace Go.Proofs.YtckammgnmgkieaaGreat
set_option maxRecDepth 20000
open Go.RowKit Go.Shelf

theorem WdsAt.drop {W : World} {g off n c : Nat} {l : List Wd} (h : WdsAt W (.slice (some ⟨g, off, none⟩) n c) l) (hn : l.length = n) (h1 : 1 ≤ n) :
    WdsAt W (.slice (if c = 1 then some ⟨g, off, none⟩ else some ⟨g, off + 2, none⟩) (n - 1) (c - 1)) (l.drop 1) := by
  obtain ⟨a, c', e, h2, h3, h⟩ := h
  rw [Value.slice.injEq] at e
  obtain ⟨rfl, _, rfl⟩ := e
  refine ⟨_, _, by rw [List.length_drop, hn], by rw [List.length_drop, hn]; omega, ?_, ?_⟩
  · intro h; split at h <;> cases h
  · rcases h with h | ⟨b, o, e, hb, hcell⟩
    · subst h; simp at hn; omega
    · rw [Option.some.injEq] at e
      cases e
      by_cases h4 : c = 1
      · left; exact List.eq_nil_of_length_eq_zero (by rw [List.length_drop]; omega)
      · right
        rw [if_neg h4]
        refine ⟨g, off + 2, rfl, hb, fun j hj => ?_⟩
        have hj' : j + 1 < l.length := by rw [List.length_drop] at hj; omega
        have := hcell (j + 1) hj'
        rw [show off + (j + 1) * 2 = off + 2 + j * 2 by omega] at this
        rw [List.getElem_drop]
        simp only [Nat.add_comm 1 j]
        exact this
theorem WdsOK.drop {l : List Wd} (h : WdsOK l) (k : Nat) : WdsOK (l.drop k) := ⟨by have := h.1; rw [List.length_drop]; omega, fun x hx => h.2 x (List.mem_of_mem_drop hx)⟩
end Go.Proofs.YtckammgnmgkieaaGreat

/-
  Slices whose elements have k cells, wherever they lie; slices.Clone of them.
-/
namespace Go.Proofs.YtckammgnmgkieaaGreat
set_option maxRecDepth 20000
open Go.RowKit Go.Shelf
set_option maxRecDepth 20000
set_option linter.unusedVariables false
set_option linter.unusedSimpArgs false

def SlK (W : World) (v : Value) (css : List (List Value)) : Prop :=
  ∃ a c, v = .slice a css.length c ∧ css.length ≤ c ∧ (a = none → c = 0) ∧ (css = [] ∨ ∃ b off, a = some ⟨b, off, none⟩ ∧ b < W.heap.size ∧ ∀ j u, css.flatten[j]? = some u → W.cell? ⟨b, off + j, none⟩ = some u)
theorem SlK.below {W W' : World} {v : Value} {css : List (List Value)} (h : SlK W v css) (hb : Below W.heap.size W W') : SlK W' v css := by
  obtain ⟨a, c, e, h1, h2, h⟩ := h
  refine ⟨a, c, e, h1, h2, ?_⟩
  rcases h with h | ⟨b, off, ea, hlt, hc⟩
  · exact .inl h
  · exact .inr ⟨b, off, ea, Nat.lt_of_lt_of_le hlt hb.size, fun j u hj => (hb.cell (p := ⟨b, off + j, none⟩) hlt).trans (hc j u hj)⟩
theorem SlK.nil (W : World) : SlK W (.slice none 0 0) [] := ⟨none, 0, rfl, Nat.le_refl _, fun _ => rfl, .inl rfl⟩
theorem slK_one {W : World} {v : Value} {xs : List Value} (h : SlAt W v xs) : SlK W v (xs.map fun x => [x]) := by
  obtain ⟨a, c, e, h1, h2, h⟩ := h
  refine ⟨a, c, by rw [List.length_map]; exact e, by rw [List.length_map]; exact h1, h2, ?_⟩
  have hf : ∀ xs : List Value, (xs.map fun x => [x]).flatten = xs := fun xs => by
    induction xs with
    | nil => rfl
    | cons x r ih => rw [List.map_cons, List.flatten_cons, ih]; rfl
  rcases h with h | ⟨b, off, ea, hlt, hc⟩
  · subst h; exact .inl rfl
  · refine .inr ⟨b, off, ea, hlt, fun j u hj => ?_⟩
    rw [hf] at hj
    obtain ⟨hj1, hj2⟩ := List.getElem?_eq_some_iff.1 hj
    rw [← hj2]; exact hc j hj1
abbrev OwnC (k : Nat) (T : TypeId) (W : World) (base : Nat) (v : Value) (css : List (List Value)) : Prop := OwnK k T (fun cs : List Value => cs) W base v css
theorem flat_id (css : List (List Value)) : css.flatMap (fun cs => cs) = css.flatten := by simp [List.flatMap]
theorem flat_len {k : Nat} : ∀ (css : List (List Value)), (∀ cs ∈ css, cs.length = k) → css.flatten.length = css.length * k
  | [], _ => by simp
  | c :: r, h => by
    rw [List.flatten_cons, List.length_append, h c (by simp), flat_len r (fun x hx => h x (by simp [hx])), List.length_cons, Nat.succ_mul]; omega
theorem SlK.of_own {k : Nat} {T : TypeId} {W : World} {base : Nat} {v : Value} {css : List (List Value)} (h : OwnC k T W base v css) (hk : ∀ cs ∈ css, cs.length = k) : SlK W v css := by
  rcases h.2 with ⟨rfl, h0⟩ | ⟨g, cap, cur, rfl, hb, hg, hc, hm, hsz, htk⟩
  · obtain rfl := List.eq_nil_of_length_eq_zero h0
    exact SlK.nil W
  · refine ⟨_, _, rfl, hc, (fun e => by cases e), .inr ⟨g, 0, rfl, (Array.getElem?_eq_some_iff.1 hg).1, fun j u hj => ?_⟩⟩
    have hl := flat_len css hk
    have hj' : j < css.length * k := by rw [← hl]; exact (List.getElem?_eq_some_iff.1 hj).1
    have h3 : cur.toList[j]? = some u := by
      have : (cur.toList.take (css.length * k))[j]? = some u := by rw [htk, flat_id]; exact hj
      rw [List.getElem?_take, if_pos hj'] at this
      exact this
    simp only [World.cell?, hg, Nat.zero_add]
    simpa using h3
theorem wpl_append_slk {S T : TypeId} {k bytes : Nat} {ops : Array Oper} {rest : List Oper} {o : Oper} {a : Act} {Q : Exit → Act → World → Prop} (W : World) (hgd : o.guard = none) (s x : Operand) (hE : ElemK k T S bytes) (hk0 : 0 < k)
    (ho : o.op = .call { callee := .builtin .append, args := #[s, x], argTypes := #[S, S] })
    (base : Nat) (v : Value) (xs : List (List Value)) (hs : a.eval s = v) (hown : OwnC k T W base v xs)
    (src : Value) (ys : List (List Value)) (hx : a.eval x = src) (hsrc : SlK W src ys) (hyk : ∀ cs ∈ ys, cs.length = k) (hy1 : ∀ cs ∈ ys, ∀ u ∈ cs, u.oneCell' = true)
    (hbase : base ≤ W.heap.size) (hk : xs.length + ys.length ≤ maxLen) (hk2 : (xs.length + ys.length) * bytes ≤ 140737488355328)
    (h : ∀ v' w', OwnC k T w' base v' (xs ++ ys) → W.grownBy w' v.ownBlock → wpList Tryz.prog ops Q rest (a.put o.dst v') w') :
    wpList Tryz.prog ops Q (o :: rest) a W := by
  obtain ⟨ht, i, z, hi, hz, hz1, hz2, hzc⟩ := hE
  obtain ⟨a0, c0, rfl, h1, h2, h3⟩ := hsrc
  have hlen := flat_len ys hyk
  cases a0 with
  | none =>
    have e3 := h2 rfl
    subst e3
    have e4 : ys = [] := List.eq_nil_of_length_eq_zero (by omega)
    subst e4
    refine wpList_append_own_none hgd s x S ho base _ i k ht hi v _ _ hs hown hx ?_
    exact h v W (by rw [List.append_nil]; exact hown) ⟨rfl, rfl, rfl, Nat.le_refl _, fun _ _ _ => rfl⟩
  | some ad =>
    have hcell : ∀ j u, ys.flatten[j]? = some u → W.cell? (ad.add j) = some u := by
      intro j u hj
      rcases h3 with h3 | ⟨b, off, ea, _, hc⟩
      · subst h3; simp at hj
      · cases ea; rw [Addr.add_lit]; exact hc j u hj
    refine wpList_append_own _ hgd s x S ho base _ i z k bytes ht hi hz hz1 hz2 hzc hk0 v xs.length (xs.flatMap fun cs => cs) hs hown ad ys.length c0 ys.flatten hx hlen hcell (by intro u hu; obtain ⟨y, hy, hu⟩ := List.mem_flatten.1 hu; exact hy1 y hy u hu) hk hk2 hbase ?_
    intro v' w' g1 g2 _
    refine h v' w' ?_ g2
    unfold OwnC OwnK
    rw [List.length_append, List.flatMap_append, flat_id ys]
    exact g1
theorem ownC_lit (k : Nat) (T : TypeId) (w : World) : OwnC k T (w.alloc (.cells #[] T)) w.heap.size (.slice (some ⟨w.heap.size, 0, none⟩) 0 0) [] := World.ownsRow_made w #[] 0 (Nat.le_refl _) (Nat.zero_le _) (by simp)

theorem elem_rec : ElemK 7 103 22 136 := ⟨Tryz.underlying22, _, _, rfl, rfl, rfl, rfl, rfl⟩
set_option maxHeartbeats 2000000 in
theorem clone_rec (v : Value) (css : List (List Value)) (w : World) (hA : SlK w v css) (hk : ∀ cs ∈ css, cs.length = 7) (h1 : ∀ cs ∈ css, ∀ u ∈ cs, u.oneCell' = true) (hl : css.length ≤ 1000000000000) :
    Calls Tryz.prog 150 #[v] w fun e w' => ∃ v', e = .returned v' ∧ OwnC 7 103 w' w.heap.size v' css ∧ Below w.heap.size w w' := by
  obtain ⟨a, c, rfl, hc1, hc2, hx⟩ := id hA
  cases a with
  | none =>
    have hnil : css = [] := List.eq_nil_of_length_eq_zero (by have := hc2 rfl; omega)
    subst hnil
    obtain rfl := hc2 rfl
    clear hc2 hx
    have q := fun w => Lib.run_eql_slice_nil (P := Tryz.prog) w 22 _ none 0 0 0 0 Tryz.underlying22
    go_enter Tryz.func150, Tryz.ntmps150
    go_wp2
    go_ret
    exact ⟨_, rfl, OwnK.nil _ _, Below.refl _ _⟩
  | some ad =>
    have hlit := ownC_lit 7 103 w
    have q := fun w => Lib.run_eql_slice_nil (P := Tryz.prog) w 22 _ (some ad) css.length c 0 0 Tryz.underlying22
    go_enter Tryz.func150, Tryz.ntmps150
    go_wp2_with (at_builtin; refine wpl_append_slk (w.alloc (.cells #[] 103)) rfl (.tmp 5) (.tmp 6) elem_rec (by decide) rfl w.heap.size _ [] rfl hlit _ css rfl (hA.below ((Below.refl _ w).alloc (Nat.le_refl _) _)) hk h1 (by simp) (by unfold maxLen; simp; omega) (by simp; omega) ?_; intro v' w' hown' hg')
    go_ret
    exact ⟨v', rfl, hown', ((Below.refl _ w).alloc (Nat.le_refl _) _).grown hg' (by simp) hlit.base_le⟩

theorem elem_u32 : ElemK 1 35 98 4 := ⟨Tryz.underlying98, _, _, rfl, rfl, rfl, rfl, rfl⟩
set_option maxHeartbeats 2000000 in
theorem clone_u32 (v : Value) (css : List (List Value)) (w : World) (hA : SlK w v css) (hk : ∀ cs ∈ css, cs.length = 1) (h1 : ∀ cs ∈ css, ∀ u ∈ cs, u.oneCell' = true) (hl : css.length ≤ 1000000000000) :
    Calls Tryz.prog 152 #[v] w fun e w' => ∃ v', e = .returned v' ∧ OwnC 1 35 w' w.heap.size v' css ∧ Below w.heap.size w w' := by
  obtain ⟨a, c, rfl, hc1, hc2, hx⟩ := id hA
  cases a with
  | none =>
    have hnil : css = [] := List.eq_nil_of_length_eq_zero (by have := hc2 rfl; omega)
    subst hnil
    obtain rfl := hc2 rfl
    clear hc2 hx
    have q := fun w => Lib.run_eql_slice_nil (P := Tryz.prog) w 98 _ none 0 0 0 0 Tryz.underlying98
    go_enter Tryz.func152, Tryz.ntmps152
    go_wp2
    go_ret
    exact ⟨_, rfl, OwnK.nil _ _, Below.refl _ _⟩
  | some ad =>
    have hlit := ownC_lit 1 35 w
    have q := fun w => Lib.run_eql_slice_nil (P := Tryz.prog) w 98 _ (some ad) css.length c 0 0 Tryz.underlying98
    go_enter Tryz.func152, Tryz.ntmps152
    go_wp2_with (at_builtin; refine wpl_append_slk (w.alloc (.cells #[] 35)) rfl (.tmp 5) (.tmp 6) elem_u32 (by decide) rfl w.heap.size _ [] rfl hlit _ css rfl (hA.below ((Below.refl _ w).alloc (Nat.le_refl _) _)) hk h1 (by simp) (by unfold maxLen; simp; omega) (by simp; omega) ?_; intro v' w' hown' hg')
    go_ret
    exact ⟨v', rfl, hown', ((Below.refl _ w).alloc (Nat.le_refl _) _).grown hg' (by simp) hlit.base_le⟩

theorem elem_str : ElemK 1 9 23 16 := ⟨Tryz.underlying23, _, _, rfl, rfl, rfl, rfl, rfl⟩
set_option maxHeartbeats 2000000 in
theorem clone_str (v : Value) (css : List (List Value)) (w : World) (hA : SlK w v css) (hk : ∀ cs ∈ css, cs.length = 1) (h1 : ∀ cs ∈ css, ∀ u ∈ cs, u.oneCell' = true) (hl : css.length ≤ 1000000000000) :
    Calls Tryz.prog 153 #[v] w fun e w' => ∃ v', e = .returned v' ∧ OwnC 1 9 w' w.heap.size v' css ∧ Below w.heap.size w w' := by
  obtain ⟨a, c, rfl, hc1, hc2, hx⟩ := id hA
  cases a with
  | none =>
    have hnil : css = [] := List.eq_nil_of_length_eq_zero (by have := hc2 rfl; omega)
    subst hnil
    obtain rfl := hc2 rfl
    clear hc2 hx
    have q := fun w => Lib.run_eql_slice_nil (P := Tryz.prog) w 23 _ none 0 0 0 0 Tryz.underlying23
    go_enter Tryz.func153, Tryz.ntmps153
    go_wp2
    go_ret
    exact ⟨_, rfl, OwnK.nil _ _, Below.refl _ _⟩
  | some ad =>
    have hlit := ownC_lit 1 9 w
    have q := fun w => Lib.run_eql_slice_nil (P := Tryz.prog) w 23 _ (some ad) css.length c 0 0 Tryz.underlying23
    go_enter Tryz.func153, Tryz.ntmps153
    go_wp2_with (at_builtin; refine wpl_append_slk (w.alloc (.cells #[] 9)) rfl (.tmp 5) (.tmp 6) elem_str (by decide) rfl w.heap.size _ [] rfl hlit _ css rfl (hA.below ((Below.refl _ w).alloc (Nat.le_refl _) _)) hk h1 (by simp) (by unfold maxLen; simp; omega) (by simp; omega) ?_; intro v' w' hown' hg')
    go_ret
    exact ⟨v', rfl, hown', ((Below.refl _ w).alloc (Nat.le_refl _) _).grown hg' (by simp) hlit.base_le⟩

theorem elem_byte : ElemK 1 5 99 1 := ⟨Tryz.underlying99, _, _, rfl, rfl, rfl, rfl, rfl⟩
set_option maxHeartbeats 2000000 in
theorem clone_byte (v : Value) (css : List (List Value)) (w : World) (hA : SlK w v css) (hk : ∀ cs ∈ css, cs.length = 1) (h1 : ∀ cs ∈ css, ∀ u ∈ cs, u.oneCell' = true) (hl : css.length ≤ 1000000000000) :
    Calls Tryz.prog 154 #[v] w fun e w' => ∃ v', e = .returned v' ∧ OwnC 1 5 w' w.heap.size v' css ∧ Below w.heap.size w w' := by
  obtain ⟨a, c, rfl, hc1, hc2, hx⟩ := id hA
  cases a with
  | none =>
    have hnil : css = [] := List.eq_nil_of_length_eq_zero (by have := hc2 rfl; omega)
    subst hnil
    obtain rfl := hc2 rfl
    clear hc2 hx
    have q := fun w => Lib.run_eql_slice_nil (P := Tryz.prog) w 99 _ none 0 0 0 0 Tryz.underlying99
    go_enter Tryz.func154, Tryz.ntmps154
    go_wp2
    go_ret
    exact ⟨_, rfl, OwnK.nil _ _, Below.refl _ _⟩
  | some ad =>
    have hlit := ownC_lit 1 5 w
    have q := fun w => Lib.run_eql_slice_nil (P := Tryz.prog) w 99 _ (some ad) css.length c 0 0 Tryz.underlying99
    go_enter Tryz.func154, Tryz.ntmps154
    go_wp2_with (at_builtin; refine wpl_append_slk (w.alloc (.cells #[] 5)) rfl (.tmp 5) (.tmp 6) elem_byte (by decide) rfl w.heap.size _ [] rfl hlit _ css rfl (hA.below ((Below.refl _ w).alloc (Nat.le_refl _) _)) hk h1 (by simp) (by unfold maxLen; simp; omega) (by simp; omega) ?_; intro v' w' hown' hg')
    go_ret
    exact ⟨v', rfl, hown', ((Below.refl _ w).alloc (Nat.le_refl _) _).grown hg' (by simp) hlit.base_le⟩
end Go.Proofs.YtckammgnmgkieaaGreat

/-
  Rows in their own order: what they are, and that there is but one.
-/
namespace Go.Proofs.YtckammgnmgkieaaGreat
set_option maxRecDepth 20000
open Go.RowKit Go.Shelf
open Stb (COrd)

def StrictR (l : List Rc) : Prop := l.Pairwise fun a b => compareR a b < 0
structure CanOf (l c : List Rc) : Prop where
  up : StrictR c
  has : ∀ x ∈ l, ∃ y ∈ c, compareR y x = 0 ∧ y.ttl ≤ x.ttl
  of : ∀ y ∈ c, ∃ x ∈ l, compareR x y = 0 ∧ x.ttl = y.ttl

theorem cR_anti (x y : Rc) : compareR y x = - compareR x y := cord_compareR.anti x y
theorem cR_lt_le {x y z : Rc} (h1 : compareR x y < 0) (h2 : compareR y z ≤ 0) : compareR x z < 0 := by
  have a := cR_anti x z; have b := cR_anti x y
  have t := cord_compareR.trans y z x h2
  have := cord_compareR.trans x y z (by omega) h2
  by_cases c : compareR x z < 0
  · exact c
  · have := t (by omega); omega
theorem cR_le_lt {x y z : Rc} (h1 : compareR x y ≤ 0) (h2 : compareR y z < 0) : compareR x z < 0 := by
  have a := cR_anti x z; have b := cR_anti y z
  have t := cord_compareR.trans z x y
  have := cord_compareR.trans x y z h1 (by omega)
  by_cases c : compareR x z < 0
  · exact c
  · have := t (by omega) h1; omega
theorem cR_eq {x y z : Rc} (h1 : compareR x y = 0) (h2 : compareR y z = 0) : compareR x z = 0 := by
  have a := cR_anti x z; have b := cR_anti y z; have c := cR_anti x y
  have t1 := cord_compareR.trans x y z (by omega) (by omega)
  have t2 := cord_compareR.trans z y x (by omega) (by omega)
  omega
theorem cR_sym {x y : Rc} (h : compareR x y = 0) : compareR y x = 0 := by have := cR_anti x y; omega
theorem minT_le (a b : Nat) : minT a b ≤ a ∧ minT a b ≤ b ∧ (minT a b = a ∨ minT a b = b) := by
  unfold minT; split <;> omega

theorem insR_lt {x : Rc} : ∀ (l : List Rc), StrictR l → ∀ z, compareR z x < 0 → (∀ y ∈ l, compareR z y < 0) → ∀ y ∈ insR l x, compareR z y < 0
  | [], _, z, h, _, y, hy => by simp [insR] at hy; subst hy; exact h
  | a :: r, hs, z, h, h2, y, hy => by
    have p := List.pairwise_cons.1 hs
    simp only [insR] at hy
    split at hy
    · rcases List.mem_cons.1 hy with rfl | hy
      · exact h2 y (by simp)
      · exact insR_lt r p.2 z h (fun y hy => h2 y (by simp [hy])) y hy
    · split at hy
      · rcases List.mem_cons.1 hy with rfl | hy
        · exact h2 a (by simp)
        · exact h2 y (by simp [hy])
      · rcases List.mem_cons.1 hy with rfl | hy
        · exact h
        · exact h2 y hy
theorem insR_strict (x : Rc) : ∀ (l : List Rc), StrictR l → StrictR (insR l x)
  | [], _ => by simp [insR, StrictR]
  | a :: r, hs => by
    have p := List.pairwise_cons.1 hs
    simp only [insR]
    split
    · rename_i c
      exact List.pairwise_cons.2 ⟨insR_lt r p.2 a c p.1, insR_strict x r p.2⟩
    · rename_i c
      split
      · exact List.pairwise_cons.2 ⟨fun y hy => p.1 y hy, p.2⟩
      · rename_i c2
        have hx : compareR x a < 0 := by have := cR_anti x a; omega
        refine List.pairwise_cons.2 ⟨fun y hy => ?_, hs⟩
        rcases List.mem_cons.1 hy with rfl | hy
        · exact hx
        · exact cR_lt_le hx (by have := p.1 y hy; omega)
theorem insR_has (x : Rc) : ∀ (l : List Rc), (∃ y ∈ insR l x, compareR y x = 0 ∧ y.ttl ≤ x.ttl) ∧ ∀ a ∈ l, ∃ y ∈ insR l x, compareR y a = 0 ∧ y.ttl ≤ a.ttl
  | [] => ⟨⟨x, by simp [insR], compareR_self x, Nat.le_refl _⟩, by simp⟩
  | a :: r => by
    obtain ⟨⟨y, hy, h1⟩, h2⟩ := insR_has x r
    simp only [insR]
    split
    · refine ⟨⟨y, by simp [hy], h1⟩, fun b hb => ?_⟩
      rcases List.mem_cons.1 hb with rfl | hb
      · exact ⟨b, by simp, compareR_self b, Nat.le_refl _⟩
      · obtain ⟨z, hz, h⟩ := h2 b hb
        exact ⟨z, by simp [hz], h⟩
    · have m := minT_le a.ttl x.ttl
      split
      · rename_i c
        refine ⟨⟨_, List.mem_cons_self .., c, m.2.1⟩, fun b hb => ?_⟩
        rcases List.mem_cons.1 hb with rfl | hb
        · exact ⟨_, List.mem_cons_self .., compareR_self b, m.1⟩
        · exact ⟨b, by simp [hb], compareR_self b, Nat.le_refl _⟩
      · exact ⟨⟨x, by simp, compareR_self x, Nat.le_refl _⟩, fun b hb => ⟨b, by simp only [List.mem_cons] at hb ⊢; exact Or.inr hb, compareR_self b, Nat.le_refl _⟩⟩
theorem insR_of (x : Rc) : ∀ (l : List Rc), ∀ y ∈ insR l x, ∃ a, (a = x ∨ a ∈ l) ∧ compareR a y = 0 ∧ a.ttl = y.ttl
  | [], y, hy => by simp [insR] at hy; subst hy; exact ⟨y, .inl rfl, compareR_self y, rfl⟩
  | a :: r, y, hy => by
    simp only [insR] at hy
    split at hy
    · rcases List.mem_cons.1 hy with rfl | hy
      · exact ⟨y, .inr (by simp), compareR_self y, rfl⟩
      · obtain ⟨b, hb, h⟩ := insR_of x r y hy
        exact ⟨b, hb.imp id (fun h => by simp [h]), h⟩
    · split at hy
      · rename_i c
        rcases List.mem_cons.1 hy with rfl | hy
        · rcases (minT_le a.ttl x.ttl).2.2 with e | e
          · exact ⟨a, .inr (by simp), compareR_self a, e.symm⟩
          · exact ⟨x, .inl rfl, cR_sym c, e.symm⟩
        · exact ⟨y, .inr (by simp [hy]), compareR_self y, rfl⟩
      · simp only [List.mem_cons] at hy
        exact ⟨y, hy.imp id (fun h => by simpa using h), compareR_self y, rfl⟩
theorem insR_length (x : Rc) : ∀ (l : List Rc), (insR l x).length ≤ l.length + 1 ∧ l.length ≤ (insR l x).length
  | [] => by simp [insR]
  | a :: r => by
    have := insR_length x r
    simp only [insR]
    repeat' split
    all_goals simp only [List.length_cons]; omega
theorem CanOf.step {l c : List Rc} (h : CanOf l c) (x : Rc) : CanOf (l ++ [x]) (insR c x) := by
  refine ⟨insR_strict x c h.up, fun a ha => ?_, fun y hy => ?_⟩
  · rcases List.mem_append.1 ha with ha | ha
    · obtain ⟨y, hy, h1, h2⟩ := h.has a ha
      obtain ⟨z, hz, g1, g2⟩ := (insR_has x c).2 y hy
      exact ⟨z, hz, cR_eq g1 h1, Nat.le_trans g2 h2⟩
    · simp at ha; subst ha
      exact (insR_has a c).1
  · obtain ⟨a, ha, h1, h2⟩ := insR_of x c y hy
    rcases ha with rfl | ha
    · exact ⟨a, by simp, h1, h2⟩
    · obtain ⟨b, hb, g1, g2⟩ := h.of a ha
      exact ⟨b, by simp [hb], cR_eq g1 h1, by omega⟩
theorem canonM_snoc (l : List Rc) (x : Rc) : canonM (l ++ [x]) = insR (canonM l) x := by simp [canonM, List.foldl_append]
theorem list_snoc_ind {α : Type} {P : List α → Prop} (h0 : P []) (hs : ∀ l x, P l → P (l ++ [x])) (l : List α) : P l := by
  have : ∀ l : List α, P l.reverse := by
    intro l
    induction l with
    | nil => exact h0
    | cons x l ih => rw [List.reverse_cons]; exact hs _ _ ih
  have := this l.reverse
  rwa [List.reverse_reverse] at this
theorem canonM_can (l : List Rc) : CanOf l (canonM l) :=
  list_snoc_ind (P := fun l => CanOf l (canonM l)) ⟨List.Pairwise.nil, by simp, by simp [canonM]⟩ (fun l x h => by rw [canonM_snoc]; exact h.step x) l
theorem canonM_length (l : List Rc) : (canonM l).length ≤ l.length :=
  list_snoc_ind (P := fun l => (canonM l).length ≤ l.length) (by simp [canonM]) (fun l x h => by rw [canonM_snoc]; have := insR_length x (canonM l); simp; omega) l

def Covers (l m : List Rc) : Prop := ∀ x ∈ m, ∃ y ∈ l, compareR y x = 0 ∧ y.ttl ≤ x.ttl
theorem StrictR.one {c : List Rc} : StrictR c → ∀ {y z : Rc}, y ∈ c → z ∈ c → compareR y z = 0 → y = z := by
  intro h
  induction c with
  | nil => intro y z hy; cases hy
  | cons a c ih =>
    intro y z hy hz hc
    have p := List.pairwise_cons.1 h
    rcases List.mem_cons.1 hy with ey | hy'
    · rcases List.mem_cons.1 hz with ez | hz'
      · rw [ey, ez]
      · have := p.1 z hz'; rw [ey] at hc; omega
    · rcases List.mem_cons.1 hz with ez | hz'
      · have := p.1 y hy'; have := cR_anti y z; rw [ez] at hc this; omega
      · exact ih p.2 hy' hz' hc
theorem covers_canon (l : List Rc) : Covers (canonM l) l := (canonM_can l).has
end Go.Proofs.YtckammgnmgkieaaGreat

