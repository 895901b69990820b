import Derived.Deep.RegionHeld3
import Derived.Test.YtckammgnmgkieaaGreatMQ20
namespace Go.Proofs.YtckammgnmgkieaaGreat
set_option maxRecDepth 20000
open Go.RowKit Go.Shelf
def RowC (W : World) (v : Value) (l : List Rc) : Prop := ∃ css, SlK W v css ∧ Rcs W css l
theorem RowC.below {W W' : World} {v : Value} {l : List Rc} (h : RowC W v l) (hb : Below W.heap.size W W') : RowC W' v l := by
 obtain ⟨css, h1, h2⟩ := h
 exact ⟨css, h1.below hb, h2.below hb⟩
theorem RowS.below {W W' : World} {v : Value} {l : List St} (h : RowS W v l) (hb : Below W.heap.size W W') : RowS W' v l := by
 obtain ⟨csd, h1, h2, h3⟩ := h
 exact ⟨csd, h1.below hb, h2, fun j a b => (h3 j a b).below hb⟩
theorem RowS.shape {W : World} {v : Value} {l : List St} (h : RowS W v l) : ∃ a c, v = .slice a l.length c := by
 obtain ⟨csd, ⟨a, c, e, _⟩, h2, _⟩ := h
 exact ⟨a, c, by rw [e, h2]⟩
theorem RowS.elem {W : World} {a : Option Addr} {n c : Nat} {l : List St} (h : RowS W (.slice a n c) l) (h0 : 0 < l.length) : ∃ b off, a = some ⟨b, off, none⟩ ∧ b < W.heap.size ∧
 ∀ k (hk : k < l.length), ∃ (x0 x3 : Option Addr × Nat × Nat), SetR W [.slice x0.1 x0.2.1 x0.2.2, .int .i64 l[k].ty, .int .u32 (l[k].ttl : Int), .slice x3.1 l[k].data.length x3.2.2] l[k] ∧
  ∀ W', Below W.heap.size W W' → W'.cell? ⟨b, off + k * 4, none⟩ = some (.slice x0.1 x0.2.1 x0.2.2) ∧ W'.cell? ⟨b, off + k * 4 + 1, none⟩ = some (.int .i64 l[k].ty) ∧ W'.cell? ⟨b, off + k * 4 + 2, none⟩ = some (.int .u32 (l[k].ttl : Int)) ∧ W'.cell? ⟨b, off + k * 4 + 3, none⟩ = some (.slice x3.1 l[k].data.length x3.2.2) := by
 obtain ⟨csd, h1, h2, h3⟩ := h
 obtain ⟨b, off, e, hb, hel⟩ := h1.elem4 (fun cs hc => by
  obtain ⟨i, hi, rfl⟩ := List.mem_iff_getElem.1 hc
  obtain ⟨x0, x3, ds, e, _⟩ := h3 i hi (by omega)
  rw [e]; rfl) (by omega)
 refine ⟨b, off, e, hb, fun k hk => ?_⟩
 have hk1 : k < csd.length := by omega
 have hs := h3 k hk1 hk
 obtain ⟨x0, x3, ds, e2, q1, q2, q3, q4⟩ := id hs
 have hl : x3.2.1 = l[k].data.length := by
  obtain ⟨_, _, e3, _⟩ := id q2
  injection e3 with _ e3 _
  rw [e3, q3]
 rw [hl] at e2
 rw [e2] at hs
 exact ⟨x0, x3, hs, fun W' hB => hel k hk1 _ _ _ _ e2 W' hB⟩
theorem SetR.dts {W : World} {x0 x3 : Option Addr × Nat × Nat} {y t : Int} {n : Nat} {s : St} (h : SetR W [.slice x0.1 x0.2.1 x0.2.2, .int .i64 y, .int .u32 t, .slice x3.1 n x3.2.2] s) : ∃ ds, SlK W (.slice x3.1 n x3.2.2) ds ∧ Dts W ds s.data ∧ n = s.data.length := by
 obtain ⟨z0, z3, ds, e, q1, q2, q3, q4⟩ := h
 simp only [List.cons.injEq, and_true] at e
 obtain ⟨-, -, -, e3⟩ := e
 rw [← e3] at q2
 refine ⟨ds, q2, ⟨q3, q4⟩, ?_⟩
 obtain ⟨_, _, e4, _⟩ := id q2
 injection e4 with _ e4 _
 rw [e4, q3]
theorem SetR.shape {W : World} {cs : List Value} {s : St} (h : SetR W cs s) : ∃ (x0 x3 : Option Addr × Nat × Nat), cs = [.slice x0.1 x0.2.1 x0.2.2, .int .i64 s.ty, .int .u32 (s.ttl : Int), .slice x3.1 s.data.length x3.2.2] := by
 obtain ⟨x0, x3, ds, e, q1, q2, q3, q4⟩ := h
 refine ⟨x0, x3, ?_⟩
 rw [e]
 obtain ⟨_, _, e4, _⟩ := id q2
 injection e4 with _ e4 _
 rw [e4, q3]
theorem qf2 (v vo : Value) (o : Nm) (t : Int) (l : List Rc) (w : World) (h : RowC w v l) (hO : NmAt w vo o) (hko : NmOK o) (hOK : ∀ r ∈ l, RcOK r) (hl : l.length ≤ 1048576) : Calls Tryz.prog 21 #[v, vo, .int .i64 t] w (qb9 w (ofM l o t)) := by
 obtain ⟨css, h1, h2⟩ := h
 obtain ⟨a, c, rfl, _⟩ := id h1
 exact qlG a _ c vo o t css l w h1 h2 hOK hO hko (by rw [h2.1]; exact hl)
theorem knewD (W : World) (o : Obj) : ((W.alloc o).drew).heap[W.heap.size]? = some o := knew W o
end Go.Proofs.YtckammgnmgkieaaGreat
