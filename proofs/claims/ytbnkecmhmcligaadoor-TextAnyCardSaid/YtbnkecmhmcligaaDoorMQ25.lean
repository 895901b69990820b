/-
  Package rtype's table looked up: by the number, by the name.
-/
import Derived.Test.YtbnkecmhmcligaaDoorMQ11
import Derived.Test.YtbnkecmhmcligaaDoorMQ09
import Derived.Test.YtbnkecmhmcligaaDoorMQ24
namespace Go.Proofs.YtbnkecmhmcligaaDoor
set_option linter.unusedVariables false
set_option linter.unusedSimpArgs false
set_option maxRecDepth 20000
open Go.RowKit Go.Shelf

theorem fin_prefix {n : Nat} {p : List (Fin n)} {x : Fin n} (h : (p ++ [x]) <+: List.finRange n) : ∀ j : Fin n, j.val < x.val → j ∈ p := by
  have hl : p.length + 1 ≤ n := by have := h.length_le; simpa using this
  have hg : ∀ i (h1 : i < p.length + 1), (p ++ [x])[i]'(by simpa using h1) = ⟨i, by omega⟩ := fun i h1 => by
    have := h.getElem (i := i) (by simpa using h1)
    rw [this]; simp
  have hx : x.val = p.length := by
    have := hg p.length (by omega)
    rw [List.getElem_append_right (Nat.le_refl _)] at this
    simp at this; rw [this]
  intro j hj
  have h1 : j.val < p.length := by omega
  have := hg j.val (by omega)
  rw [List.getElem_append_left h1] at this
  rw [← show p[j.val] = j from this]; exact List.getElem_mem h1
theorem results_sb {fn : Func} {t u : Tmp} {S B : TypeId} (h : fn.results = #[.cell t S, .cell u B]) (hS : Tryd.prog.underlying S = some .string) (hB : Tryd.prog.underlying B = some .bool) (tmps : Array Value) (W : World) {a b : Nat} {v z : Value}
    (ht : tmps.getD t undef = .pointer (some ⟨a, 0, none⟩)) (hu : tmps.getD u undef = .pointer (some ⟨b, 0, none⟩)) (hc : W.cell? ⟨a, 0, none⟩ = some v) (hd : W.cell? ⟨b, 0, none⟩ = some z) : (results fn tmps).run Tryd.prog W = .ok (.tuple #[v, z]) W := by
  have ht' : tmps[t]?.getD undef = .pointer (some ⟨a, 0, none⟩) := by rw [← ht]; simp
  have hu' : tmps[u]?.getD undef = .pointer (some ⟨b, 0, none⟩) := by rw [← hu]; simp
  have h1 : ∀ w, Sem.run Tryd.prog (underlying S) w = .ok _ w := run_underlying hS
  have h2 : ∀ w, Sem.run Tryd.prog (underlying B) w = .ok _ w := run_underlying hB
  simp [results, h, ht', hu', loadVar, asAddr, go_sem, h1, h2, hc, hd, isAgg]
theorem results_ib {fn : Func} {t u : Tmp} {S B : TypeId} {k : IntKind} (h : fn.results = #[.cell t S, .cell u B]) (hS : Tryd.prog.underlying S = some (.int k)) (hB : Tryd.prog.underlying B = some .bool) (tmps : Array Value) (W : World) {a b : Nat} {v z : Value}
    (ht : tmps.getD t undef = .pointer (some ⟨a, 0, none⟩)) (hu : tmps.getD u undef = .pointer (some ⟨b, 0, none⟩)) (hc : W.cell? ⟨a, 0, none⟩ = some v) (hd : W.cell? ⟨b, 0, none⟩ = some z) : (results fn tmps).run Tryd.prog W = .ok (.tuple #[v, z]) W := by
  have ht' : tmps[t]?.getD undef = .pointer (some ⟨a, 0, none⟩) := by rw [← ht]; simp
  have hu' : tmps[u]?.getD undef = .pointer (some ⟨b, 0, none⟩) := by rw [← hu]; simp
  have h1 : ∀ w, Sem.run Tryd.prog (underlying S) w = .ok _ w := run_underlying hS
  have h2 : ∀ w, Sem.run Tryd.prog (underlying B) w = .ok _ w := run_underlying hB
  simp [results, h, ht', hu', loadVar, asAddr, go_sem, h1, h2, hc, hd, isAgg]
theorem rowOfT_at {t : Int} {x : Fin 9} {p : List (Fin 9)} (hp : (p ++ [x]) <+: List.finRange 9) (h : typeT x.val = t) (hn : ∀ j ∈ p, typeT j.val ≠ t) : rowOfT t = some x.val :=
  rowOfT_first x.isLt h (fun j hj => hn ⟨j, Nat.lt_trans hj x.isLt⟩ (fin_prefix hp ⟨j, Nat.lt_trans hj x.isLt⟩ hj))
theorem rowOfS_at {t : List UInt8} {x : Fin 9} {p : List (Fin 9)} (hp : (p ++ [x]) <+: List.finRange 9) (h : typeS x.val = t) (hn : ∀ j ∈ p, typeS j.val ≠ t) : rowOfS t = some x.val :=
  rowOfS_first x.isLt h (fun j hj => hn ⟨j, Nat.lt_trans hj x.isLt⟩ (fin_prefix hp ⟨j, Nat.lt_trans hj x.isLt⟩ hj))
def keyOfM (s : List UInt8) : Int × Bool := match rowOfS s with | some j => (typeT j, true) | none => (0, false)

section
attribute [local go_sem] Oper.semAt_some
set_option maxRecDepth 100000 in
set_option maxHeartbeats 4000000 in
theorem table_value (g : Nat) (t : Int) (w : World) (hN : NRow g w) :
    Calls Tryd.prog 46 #[.agg #[.slice (some ⟨g, 0, none⟩) 9 9], .int .i64 t] w fun e w' => e = .returned (.tuple #[.string ⟨(typeNameM t).toArray⟩, .bool (knownM t)]) ∧ Below w.heap.size w w' := by
  refine (callsIn_wide (n := 5)).1 ?_
  refine callsIn_of_wp_marks Tryd.func46 rfl trivial ?_ rfl
  simp only [Tryd.ntmps46, List.size_toArray, List.length_cons, List.length_nil, Nat.reduceAdd, Nat.reduceSub, Array.replicate_succ, Array.replicate_zero, List.push_toArray, List.append_toArray, List.nil_append, List.cons_append]
  gi_wp2_with (refine ⟨trivial, ?_⟩; gi_at_call 52; refine (callsIn_wide.2 (table_all _ _)).mono ?_; rintro e w' ⟨rfl, rfl⟩)
  obtain ⟨W0, hW0⟩ : ∃ W0, (((((w.alloc (.cells #[.slice (some ⟨g, 0, none⟩) 9 9] 83)).alloc (.cells #[.int .i64 t] 3)).alloc (.cells #[.string ⟨#[]⟩] 9)).alloc (.cells #[.bool false] 4)).alloc (.cells #[.slice (some ⟨g, 0, none⟩) 9 9] 83)) = W0 := ⟨_, rfl⟩
  have bK : Boxed W0 (w.heap.size + 1) 3 (.int .i64 t) := by
    have := Boxed.new (w.alloc (.cells #[.slice (some ⟨g, 0, none⟩) 9 9] 83)) 3 (.int .i64 t)
    rw [World.size_alloc] at this
    rw [← hW0]; exact ((this.alloc _).alloc _).alloc _
  have bR : Boxed W0 (w.heap.size + 1 + 1) 9 (.string ⟨#[]⟩) := by
    have := Boxed.new ((w.alloc (.cells #[.slice (some ⟨g, 0, none⟩) 9 9] 83)).alloc (.cells #[.int .i64 t] 3)) 9 (.string ⟨#[]⟩)
    rw [World.size_alloc, World.size_alloc] at this
    rw [← hW0]; exact (this.alloc _).alloc _
  have bF : Boxed W0 (w.heap.size + 1 + 1 + 1) 4 (.bool false) := by
    have := Boxed.new (((w.alloc (.cells #[.slice (some ⟨g, 0, none⟩) 9 9] 83)).alloc (.cells #[.int .i64 t] 3)).alloc (.cells #[.string ⟨#[]⟩] 9)) 4 (.bool false)
    rw [World.size_alloc, World.size_alloc, World.size_alloc] at this
    rw [← hW0]; exact this.alloc _
  have bT : Boxed W0 (w.heap.size + 1 + 1 + 1 + 1) 83 (.slice (some ⟨g, 0, none⟩) 9 9) := by
    have := Boxed.new ((((w.alloc (.cells #[.slice (some ⟨g, 0, none⟩) 9 9] 83)).alloc (.cells #[.int .i64 t] 3)).alloc (.cells #[.string ⟨#[]⟩] 9)).alloc (.cells #[.bool false] 4)) 83 (.slice (some ⟨g, 0, none⟩) 9 9)
    rw [World.size_alloc, World.size_alloc, World.size_alloc, World.size_alloc] at this
    rw [← hW0]; exact this
  have hsz : W0.heap.size = w.heap.size + 5 := by rw [← hW0]; simp
  have hB0 : Below w.heap.size w W0 := by rw [← hW0]; exact (((((Below.refl _ w).alloc (Nat.le_refl _) _).alloc (by simp) _).alloc (by simp; omega) _).alloc (by simp; omega) _).alloc (by simp; omega) _
  have hN0 := hN.below hB0
  have hgw := hN.1
  rw [hW0]
  have HZ := Lib.hid hsz; clear hsz hW0
  refine wpIn_rangeFunc_ownG rfl (by omega) (gf := 58) (lb := #[.pointer (some ⟨w.heap.size + 1 + 1 + 1 + 1, 0, none⟩)]) rfl trivial (enters_of Tryd.func58 (by kernel_rfl) rfl)
    (all_stops _ (by omega) (w.heap.size + 1 + 1 + 1 + 1) g W0 (by rw [HZ.out]; omega) bT.cell hN0) keepT_t (keepT_b (by rw [HZ.out]; omega) hN0.1) (Below.refl _ _) (fun _ => rfl)
    (fun pre W => Boxed W (w.heap.size + 1) 3 (.int .i64 t) ∧ Boxed W (w.heap.size + 1 + 1) 9 (.string ⟨#[]⟩) ∧ Boxed W (w.heap.size + 1 + 1 + 1) 4 (.bool false) ∧ Below w.heap.size w W ∧ ∀ j ∈ pre, typeT j.val ≠ t)
    (fun k pre W => k = .ret ∧ ∃ p x, pre = p ++ [x] ∧ Boxed W (w.heap.size + 1 + 1) 9 (strV (typeS x.val)) ∧ Boxed W (w.heap.size + 1 + 1 + 1) 4 (.bool true) ∧ Below w.heap.size w W ∧ typeT x.val = t ∧ ∀ j ∈ p, typeT j.val ≠ t)
    (OwnFrom.and (Own.from (boxed_own _ _ _) _) (OwnFrom.and (Own.from (boxed_own _ _ _) _) (OwnFrom.and (Own.from (boxed_own _ _ _) _) (OwnFrom.and (ownFrom_below (Nat.le_refl _) (by rw [HZ.out]; omega)) (ownFrom_pure _ _)))))
    ?hix
    ⟨bK, bR, bF, hB0, by simp⟩
    (fun j => { tmps := #[.agg #[.slice (some ⟨g, 0, none⟩) 9 9], .int .i64 t, .pointer (some ⟨w.heap.size, 0, none⟩), .pointer (some ⟨w.heap.size + 1, 0, none⟩), .pointer (some ⟨w.heap.size + 1 + 1, 0, none⟩), .pointer (some ⟨w.heap.size + 1 + 1 + 1, 0, none⟩), .int .i64 (typeT j.val), strV (typeS j.val), undef, .agg #[.slice (some ⟨g, 0, none⟩) 9 9], .func (.func 58) #[] #[.pointer (some ⟨w.heap.size + 1 + 1 + 1 + 1, 0, none⟩)], .int .i64 (typeT j.val), strV (typeS j.val), undef, undef, undef, undef, undef], defers := [] }) ?assign ?body ?done ?stop
  case hix =>
    intro k pre W W' row hs hg hr
    obtain ⟨h1, p, x, e, h2, h3, h4, h5, h6⟩ := hs
    have hO : ∀ {B : Nat} {t : TypeId} {v : Value}, Boxed W B t v → Boxed W' B t v := fun hb => Own.from (boxed_own _ _ (fun _ : Unit => _)) _ () W W' row hb hg hr
    exact ⟨h1, p, x, e, hO h2, hO h3, ownFrom_below (β := Unit) (Nat.le_refl _) (by rw [HZ.out]; omega) () W W' row h4 hg hr, h5, h6⟩
  case assign =>
    intro l x W K hK
    unfold rowV strV
    unfold strV at hK
    gi_wp2
    exact hK
  case body =>
    rintro l pre x W ⟨hK, hR, hF, hB, hC⟩ hlt
    have ck := hK.cell
    have cr := hR.cell; have fr := hR.frozen
    have cf := hF.cell; have ff := hF.frozen
    obtain ⟨sx, hsx, hsz, hsv⟩ := str_of (typeS x.val)
    obtain ⟨tx, htx⟩ : ∃ tx, typeT x.val = tx := ⟨_, rfl⟩
    rw [htx, hsv]
    have hxk : x.val < 9 := x.isLt
    by_cases he : (tx == t) = true
    · have hx : typeT x.val = t := by rw [htx]; simpa using he
      have HX := Lib.hid hx
      have HSV := Lib.hid hsv
      clear hsx hsz hsv htx hx
      gi_wp2
      refine ⟨((KeepsOthers.setCell _ _ _).trans (KeepsOthers.setCell _ _ _)).from _, rfl, pre, x, rfl, ?_, ?_, ?_, HX.out, hC⟩
      · rw [HSV.out]; exact (hR.set _).other (by omega) _
      · exact (hF.other (by omega) _).set _
      · exact (hB.setCell (p := ⟨w.heap.size + 1 + 1, 0, none⟩) (by simp; omega) _).setCell (p := ⟨w.heap.size + 1 + 1 + 1, 0, none⟩) (by simp; omega) _
    · have he0 : (tx == t) = false := by simpa using he
      have hx : typeT x.val ≠ t := by rw [htx]; simpa using he0
      have HX := Lib.hid hx
      clear hsx hsz hsv htx hx he
      gi_wp2
      refine ⟨(KeepsOthers.refl _).from _, KeepT.refl _ _ _, hK, hR, hF, hB, ?_⟩
      intro j hj
      rcases List.mem_append.1 hj with hj | hj
      · exact hC j hj
      · obtain rfl := List.mem_singleton.1 hj; exact HX.out
  case done =>
    rintro D ys W hD rfl ⟨hK, hR, hF, hB, hC⟩ hK2
    have cr := hR.cell; have fr := hR.frozen
    have cf := hF.cell; have ff := hF.frozen
    have hD1 : w.heap.size + 1 + 1 ≠ D := by have := HZ.out; omega
    have hD2 : w.heap.size + 1 + 1 + 1 ≠ D := by have := HZ.out; omega
    have hno : rowOfT t = none := rowOfT_never (fun j hj => hC ⟨j, hj⟩ (List.mem_finRange _))
    have HNO := Lib.hid hno; clear hno hC
    gi_wp2
    refine ⟨by simp, .inl ⟨_, _, rfl, run_takeDeferred (heap_setOther (heap_setOther hK2 hD1.symm _) hD2.symm _), ?_⟩⟩
    refine ⟨_, results_sb rfl Tryd.underlying9 Tryd.underlying4 _ _ rfl rfl (out_cell ((hR.set _).other (by omega) _) hD1 _) (out_cell ((hF.other (by omega) _).set _) hD2 _), ?_, ?_⟩
    · unfold typeNameM knownM; rw [HNO.out]; rfl
    · exact below_putO ((hB.setCell (p := ⟨w.heap.size + 1 + 1, 0, none⟩) (by simp; omega) _).setCell (p := ⟨w.heap.size + 1 + 1 + 1, 0, none⟩) (by simp; omega) _) (by have := HZ.out; omega) (Nat.le_refl _)
  case stop =>
    rintro D c pre W hD hp ⟨rfl, p, x, rfl, hR, hF, hB, hx, hC⟩ hK2
    have hD1 : w.heap.size + 1 + 1 ≠ D := by have := HZ.out; omega
    have hD2 : w.heap.size + 1 + 1 + 1 ≠ D := by have := HZ.out; omega
    have hsome : rowOfT t = some x.val := rowOfT_at hp hx hC
    have HS := Lib.hid hsome; clear hsome hC hx
    gi_wp2
    refine ⟨by simp, .inl ⟨_, _, rfl, run_takeDeferred hK2, ?_⟩⟩
    refine ⟨_, results_sb rfl Tryd.underlying9 Tryd.underlying4 _ _ rfl rfl (out_cell hR hD1 _) (out_cell hF hD2 _), ?_, ?_⟩
    · unfold typeNameM knownM; rw [HS.out]; rfl
    · exact below_putO hB (by have := HZ.out; omega) (Nat.le_refl _)

end
end Go.Proofs.YtbnkecmhmcligaaDoor

