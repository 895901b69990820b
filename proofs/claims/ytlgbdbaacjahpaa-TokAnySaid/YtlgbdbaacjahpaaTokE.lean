/-
  tok.Entries.
-/
import Derived.Test.YtlgbdbaacjahpaaTokO2
import Derived.Test.YtlgbdbaacjahpaaTokI
import Derived.RangeFuncBound
import Derived.RangeFuncCalls
import Derived.RangeFuncLeaves
namespace Go.Proofs.Ytlgbdbaacjahpaa
open Go.RowKit Go.Shelf
set_option maxRecDepth 20000

theorem results_sii {fn : Func} {t u v : Tmp} {S I J : TypeId} {E : TypeId} {k l : IntKind} (h : fn.results = #[.cell t S, .cell u I, .cell v J]) (hS : Try.prog.underlying S = some (.slice E)) (hI : Try.prog.underlying I = some (.int k)) (hJ : Try.prog.underlying J = some (.int l)) (tmps : Array Value) (W : World) {a b c : Nat} {x y z : Value}
    (ht : tmps.getD t undef = .pointer (some ⟨a, 0, none⟩)) (hu : tmps.getD u undef = .pointer (some ⟨b, 0, none⟩)) (hv : tmps.getD v undef = .pointer (some ⟨c, 0, none⟩)) (hx : W.cell? ⟨a, 0, none⟩ = some x) (hy : W.cell? ⟨b, 0, none⟩ = some y) (hz : W.cell? ⟨c, 0, none⟩ = some z) : (results fn tmps).run Try.prog W = .ok (.tuple #[x, y, z]) W := by
  have ht' : tmps[t]?.getD undef = .pointer (some ⟨a, 0, none⟩) := by rw [← ht]; simp
  have hu' : tmps[u]?.getD undef = .pointer (some ⟨b, 0, none⟩) := by rw [← hu]; simp
  have hv' : tmps[v]?.getD undef = .pointer (some ⟨c, 0, none⟩) := by rw [← hv]; simp
  have h1 : ∀ w, Sem.run Try.prog (underlying S) w = .ok _ w := run_underlying hS
  have h2 : ∀ w, Sem.run Try.prog (underlying I) w = .ok _ w := run_underlying hI
  have h3 : ∀ w, Sem.run Try.prog (underlying J) w = .ok _ w := run_underlying hJ
  simp [results, h, ht', hu', hv', loadVar, asAddr, go_sem, h1, h2, h3, hx, hy, hz, isAgg]
theorem txt_stop : ∀ (l r : List (Nat × UInt8)) (x : KS), (kTxt l x).2.2 ≠ 0 → kTxt (l ++ r) x = kTxt l x := by
  intro l
  induction l with
  | nil => intro r x h; exact absurd rfl h
  | cons p l ih =>
    intro r x h
    rw [kTxt] at h
    rw [List.cons_append, kTxt, kTxt]
    by_cases hq : (kTake p.1 p.2 x).2 = 0
    · rw [if_pos hq] at h
      rw [if_pos hq, if_pos hq]
      exact ih r _ h
    · rw [if_neg hq, if_neg hq]
theorem KeepsOthers.of_fr {base : Nat} {w w' : World} (h : Fr base w w') : KeepsOthers w w' := ⟨h.size, fun k o hk ho => h.keep k o hk (by rintro cs t fr rfl; cases ho)⟩
theorem Boxed.of_fr {base : Nat} {w w' : World} {b : Nat} {t : TypeId} {v : Value} (h : Fr base w w') (hb : Boxed w b t v) (ht : ¬ NearT t) : Boxed w' b t v := h.keep b _ hb (by rintro cs t' fr e; cases e; exact ht)
theorem Boxed.below' {base : Nat} {w w' : World} {b : Nat} {t : TypeId} {v : Value} (h : Below base w w') (hb : Boxed w b t v) (hlt : b < base) : Boxed w' b t v := (h.block b hlt).trans hb
theorem OwnK.ne_low {α : Type} {k : Nat} {T : TypeId} {enc : α → List Value} {W : World} {base : Nat} {v : Value} {xs : List α} (h : OwnK k T enc W base v xs) {b : Nat} (hb : b < base) : v.ownBlock = none ∨ v.ownBlock ≠ some b := by
  refine .inr fun e => ?_
  have := h.base_le b e
  omega
theorem OwnEs.low {W : World} {base : Nat} {v ve : Value} {l : List Ent} (h : OwnEs W base v ve l) {b : Nat} (hb : b < base) (u : Value) : OwnEs (W.setCell ⟨b, 0, none⟩ u) base v ve l := by
  refine h.kept (grownBy_setCell' W b u) ?_ ?_
  · obtain ⟨ds, g1, _⟩ := h; exact g1.ne_low hb
  · rintro v ⟨xs, hv⟩ _; exact OwnK.ne_low hv hb
theorem OwnEs.putO {W : World} {base : Nat} {v ve : Value} {l : List Ent} (h : OwnEs W base v ve l) {D : Nat} {o : Obj} (o' : Obj) (hD : W.heap[D]? = some o) (ho : o.isCells = false) : OwnEs (W.putObj D o') base v ve l := by
  have hr : ∀ r, some D = some r → ∃ o : Obj, W.heap[r]? = some o ∧ o.isCells = false := by rintro r e; cases e; exact ⟨o, hD, ho⟩
  refine h.kept (grownBy_putObj' W D o') ?_ ?_
  · obtain ⟨ds, g1, _⟩ := h; exact g1.own_ne hr
  · rintro v ⟨xs, hv⟩ _; exact OwnK.own_ne hv hr
theorem OwnEs.weaken {W : World} {base b2 : Nat} {v ve : Value} {l : List Ent} (h : OwnEs W base v ve l) (hb : b2 ≤ base) : OwnEs W b2 v ve l := by
  obtain ⟨ds, g1, g2, g3⟩ := h
  refine ⟨ds, OwnK.weaken g1 hb, g2, fun j a b => ?_⟩
  obtain ⟨k1, k2, k3, k4⟩ := g3 j a b
  exact ⟨k1, k2, OwnK.weaken k3 hb, k4⟩
theorem OwnEs.nil (W : World) (base : Nat) (ve : Value) : OwnEs W base (.slice none 0 0) ve [] := ⟨[], OwnK.nil _ _, rfl, fun j h => absurd h (Nat.not_lt_zero j)⟩
theorem encI_map (xs : List Nat) : xs.flatMap encI = xs.map (fun n : Nat => Value.int .i64 (n : Int)) := by
  induction xs with
  | nil => rfl
  | cons x xs ih => rw [List.flatMap_cons, ih]; rfl
/-- The cells of a row of one-cell elements. -/
theorem OwnK.cells1 {W : World} {base : Nat} {a : Option Addr} {n c : Nat} {xs : List Nat} (h : OwnK 1 3 encI W base (.slice a n c) xs) (hne : xs ≠ []) :
    ∃ g, a = some ⟨g, 0, none⟩ ∧ base ≤ g ∧ g < W.heap.size ∧ ∀ j (hj : j < xs.length), W.cell? ⟨g, j, none⟩ = some (.int .i64 (xs[j] : Int)) := by
  obtain ⟨_, h2⟩ := h
  rcases h2 with ⟨e, h0⟩ | ⟨g, cap, cur, e, hb, hg, hc, hm, hsz, htk⟩
  · exact absurd (List.eq_nil_of_length_eq_zero h0) hne
  · cases e
    refine ⟨g, rfl, hb, (Array.getElem?_eq_some_iff.1 hg).1, fun j hj => ?_⟩
    have e1 := encI_map xs
    have h3 : cur.toList[j]? = some (.int .i64 (xs[j] : Int)) := by
      have : (cur.toList.take (xs.length * 1))[j]? = some (.int .i64 (xs[j] : Int)) := by rw [htk, e1]; simp [hj]
      rw [List.getElem?_take] at this
      rw [if_pos (by omega)] at this
      exact this
    simp only [World.cell?, hg]
    simpa using h3
/-- What the loop keeps. -/
def TokJ (n : Nat) (w : World) (s : ByteArray) (pre : List (Nat × UInt8)) (W : World) : Prop :=
  (SBox W (n + 3) (n + 3) (kTxt pre ks0).1 ∧ Boxed W n 23 (.slice none 0 0) ∧ Boxed W (n + 2) 24 (.int .i64 0) ∧ Boxed W (n + 4) 9 (.string s) ∧ (kTxt pre ks0).2 = (0, 0)) ∧ Boxed W (n + 1) 3 (.int .i64 0) ∧ Below n w W
def TokX (n : Nat) (w : World) (k : Code) (pre : List (Nat × UInt8)) (W : World) : Prop :=
  ((k = .ret ∧ (kTxt pre ks0).2.2 ≠ 0) ∧ Boxed W n 23 (.slice none 0 0) ∧ Boxed W (n + 2) 24 (.int .i64 (kTxt pre ks0).2.2)) ∧ Boxed W (n + 1) 3 (.int .i64 ((kTxt pre ks0).2.1 : Int)) ∧ Below n w W
theorem tokJ_own (n : Nat) (w : World) (s : ByteArray) (hw : n ≤ w.heap.size) (k : Nat) (hk : n ≤ k) : OwnFrom k (TokJ n w s) :=
  OwnFrom.and (OwnFrom.and (Own.from (sBox_own _ _ _) _) (OwnFrom.and (Own.from (boxed_own _ _ _) _) (OwnFrom.and (Own.from (boxed_own _ _ _) _) (OwnFrom.and (Own.from (boxed_own _ _ _) _) (ownFrom_pure _ _))))) (OwnFrom.and (Own.from (boxed_own _ _ _) _) (ownFrom_below hw hk))
theorem tokX_own (n : Nat) (w : World) (c : Code) (hw : n ≤ w.heap.size) (k : Nat) (hk : n ≤ k) : OwnFrom k (TokX n w c) :=
  OwnFrom.and (OwnFrom.and (ownFrom_pure _ _) (OwnFrom.and (Own.from (boxed_own _ _ _) _) (Own.from (boxed_own _ _ _) _))) (OwnFrom.and (Own.from (boxed_own _ _ _) _) (ownFrom_below hw hk))

section
attribute [local go_sem] Oper.semAt_some
set_option maxRecDepth 100000 in
set_option maxHeartbeats 4000000 in
theorem tok_Entries (s : ByteArray) (w : World) (hs : s.size ≤ 100000) :
    Calls Try.prog 8 #[.string s] w fun e w' => ∃ v, e = .returned (.tuple #[v, .int .i64 ((entK s.data.toList).2.1 : Int), .int .i64 (entK s.data.toList).2.2]) ∧ (∃ ve, OwnEs w' w.heap.size v ve (entK s.data.toList).1) ∧ Below w.heap.size w w' := by
  refine (callsIn_wide (n := 5)).1 ?_
  refine callsIn_of_wp_marks Try.func8 rfl trivial ?_ rfl
  simp only [Try.ntmps8, List.size_toArray, List.length_cons, List.length_nil, Nat.reduceAdd, Nat.reduceSub, Array.replicate_succ, Array.replicate_zero, List.push_toArray, List.append_toArray, List.nil_append, List.cons_append]
  gi_wp2_with (refine ⟨trivial, ?_⟩; gi_at_call 10; refine (callsIn_wide.2 (tok_octets _ _)).mono ?_; rintro e w' ⟨rfl, rfl⟩)
  obtain ⟨n, hn⟩ : ∃ n, w.heap.size = n := ⟨_, rfl⟩
  obtain ⟨W0, hW0⟩ : ∃ W0, (((((w.alloc (.cells #[.slice none 0 0] 23)).alloc (.cells #[.int .i64 0] 3)).alloc (.cells #[.int .i64 0] 24)).alloc (.cells #[.slice none 0 0, .int .i64 0, .bool false, .slice none 0 0, .bool false, .slice none 0 0, .bool true, .bool false, .bool false, .slice none 0 0, .bool false, .bool false, .bool false] 47)).alloc (.cells #[.string s] 9)) = W0 := ⟨_, rfl⟩
  have bA : Boxed W0 n 23 (.slice none 0 0) := by rw [← hW0, ← hn]; exact ((((Boxed.new w _ _).alloc _).alloc _).alloc _).alloc _
  have bB : Boxed W0 (n + 1) 3 (.int .i64 0) := by
    have := Boxed.new (w.alloc (.cells #[.slice none 0 0] 23)) 3 (.int .i64 0)
    rw [World.size_alloc] at this
    rw [← hW0, ← hn]; exact ((this.alloc _).alloc _).alloc _
  have bC : Boxed W0 (n + 2) 24 (.int .i64 0) := by
    have := Boxed.new ((w.alloc (.cells #[.slice none 0 0] 23)).alloc (.cells #[.int .i64 0] 3)) 24 (.int .i64 0)
    rw [World.size_alloc, World.size_alloc] at this
    rw [← hW0, ← hn]; exact (this.alloc _).alloc _
  have bS : Boxed W0 (n + 4) 9 (.string s) := by
    have := Boxed.new ((((w.alloc (.cells #[.slice none 0 0] 23)).alloc (.cells #[.int .i64 0] 3)).alloc (.cells #[.int .i64 0] 24)).alloc (.cells #[.slice none 0 0, .int .i64 0, .bool false, .slice none 0 0, .bool false, .slice none 0 0, .bool true, .bool false, .bool false, .slice none 0 0, .bool false, .bool false, .bool false] 47)) 9 (.string s)
    rw [World.size_alloc, World.size_alloc, World.size_alloc, World.size_alloc] at this
    rw [← hW0, ← hn]; exact this
  have bX : W0.heap[n + 3]? = some (.cells #[.slice none 0 0, .int .i64 0, .bool false, .slice none 0 0, .bool false, .slice none 0 0, .bool true, .bool false, .bool false, .slice none 0 0, .bool false, .bool false, .bool false] 47) := by
    have := knew (((w.alloc (.cells #[.slice none 0 0] 23)).alloc (.cells #[.int .i64 0] 3)).alloc (.cells #[.int .i64 0] 24)) (.cells #[.slice none 0 0, .int .i64 0, .bool false, .slice none 0 0, .bool false, .slice none 0 0, .bool true, .bool false, .bool false, .slice none 0 0, .bool false, .bool false, .bool false] 47)
    rw [World.size_alloc, World.size_alloc, World.size_alloc] at this
    rw [← hW0, ← hn]
    exact (Below.heap_alloc _ _ _ (by simp)).trans this
  have hS0 : SBox W0 (n + 3) (n + 3) ks0 := ⟨_, _, _, _, bX, ⟨[], OwnK.nil _ _, rfl, fun j h => absurd h (Nat.not_lt_zero j)⟩, OwnK.nil _ _, OwnK.nil _ _, OwnK.nil _ _⟩
  have hsz : W0.heap.size = n + 5 := by rw [← hW0, ← hn]; simp
  have hB0 : Below n w W0 := by rw [← hW0, ← hn]; exact (((((Below.refl _ w).alloc (Nat.le_refl _) _).alloc (by simp) _).alloc (by simp; omega) _).alloc (by simp; omega) _).alloc (by simp; omega) _
  have hnw : n ≤ w.heap.size := Nat.le_of_eq hn.symm
  rw [hn]
  clear bX
  rw [hW0]
  have HZ := Lib.hid hsz; have HN := Lib.hid hn; have HS := Lib.hid hs
  clear hsz hW0 hn hs
  refine wpIn_rangeFunc_ownG rfl (by omega) (gf := 13) (lb := #[.pointer (some ⟨n + 1 + 1 + 1 + 1, 0, none⟩)]) rfl trivial (enters_of Try.func13 (by kernel_rfl) rfl)
    (octets_stops _ (by omega) (n + 1 + 1 + 1 + 1) s (by have := HS.out; omega) W0 (by rw [HZ.out]; omega) bS.cell) (fun h k => h.trans k) (keepB_b (by rw [HZ.out]; omega)) (Below.refl _ _) (fun _ => rfl)
    (TokJ n w s) (TokX n w) (tokJ_own n w s hnw _ (by rw [HZ.out]; omega)) (fun c => tokX_own n w c hnw _ (by rw [HZ.out]; omega))
    ⟨⟨hS0, bA, bC, bS, rfl⟩, bB, hB0⟩
    (fun p => { tmps := #[.string s, undef, .pointer (some ⟨n, 0, none⟩), .pointer (some ⟨n + 1, 0, none⟩), .pointer (some ⟨n + 1 + 1, 0, none⟩), .pointer (some ⟨n + 1 + 1 + 1, 0, none⟩), .int .i64 (p.1 : Int), bv p.2, undef, .agg #[.slice none 0 0, .int .i64 0, .bool false, .slice none 0 0, .bool false, .slice none 0 0, .bool true, .bool false, .bool false, .slice none 0 0, .bool false, .bool false, .bool false], .string s, .func (.func 13) #[] #[.pointer (some ⟨n + 1 + 1 + 1 + 1, 0, none⟩)], .int .i64 (p.1 : Int), bv p.2, undef, undef, undef, undef, undef, undef, undef, undef, undef, undef, undef, undef, undef, undef, undef, undef, undef], defers := [] }) ?assign ?body ?done ?stop
  case assign =>
    intro l x W K hK
    unfold octV bv
    gi_wp2
    exact hK
  case body =>
    rintro l pre x W ⟨⟨hSx, hA, hC, hStr, h0⟩, hI, hB⟩ hlt
    have hmx := smax_of (txt_max pre 0 ks0 ⟨Nat.le_refl _, Nat.le_refl _, Nat.le_refl _, by decide⟩) (by have := HS.out; omega)
    have hzw : n + 3 ≤ W.heap.size := by have := hStr.lt; omega
    have hP := scan_take (n + 3) (n + 3) (kTxt pre ks0).1 x.1 x.2 W hSx hzw (Nat.le_refl _) hmx
    have hsn := txt_snoc pre x ks0 (kTxt pre ks0).1 (by rw [← h0])
    generalize (kTxt pre ks0).1 = y at hP hsn hSx hmx
    have H0 := Lib.hid h0; have HSN := Lib.hid hsn; have HB := Lib.hid hB; have HA := Lib.hid hA; have HI := Lib.hid hI; have HC := Lib.hid hC; have HStr := Lib.hid hStr
    obtain ⟨er, her⟩ : ∃ er, (kTake x.1 x.2 y).2 = er := ⟨_, rfl⟩
    unfold ScanPostE at hP
    rw [her] at hP
    have HER := Lib.hid her
    clear h0 hsn hB hA hI hC hStr hSx hmx her hlt
    have fin : ∀ w', SBox w' (n + 3) (n + 3) (kTake x.1 x.2 y).1 → Fr (n + 3) W w' → KeepsFrom W0.heap.size W w' ∧ KeepB (n + 4) W w' ∧ Below n W w' := fun w' _ hF =>
      ⟨(KeepsOthers.of_fr hF).from _, (Boxed.of_fr hF HStr.out (by decide)).trans HStr.out.symm, hF.below.mono (by omega)⟩
    have FIN := Lib.hid fin
    clear fin
    by_cases he : er = 0
    · subst he
      gi_wp2_with (refine ⟨trivial, ?_⟩; gi_at_call 11; refine (CallsIn.inRound l (callsIn_wide.2 hP)).mono ?_; rintro e w' ⟨rfl, hS', hF⟩)
      obtain ⟨k1, k2, k3⟩ := FIN.out _ hS' hF
      have hz := HSN.out
      rw [if_pos HER.out] at hz
      refine ⟨k1, k2, ⟨?_, Boxed.below' hF.below HA.out (by omega), Boxed.below' hF.below HC.out (by omega), Boxed.of_fr hF HStr.out (by decide), by rw [hz]⟩, Boxed.below' hF.below HI.out (by omega), HB.out.trans k3⟩
      rw [hz]
      exact hS'
    · have z : ((er : Int) != 0) = true := by simpa using he
      have HE := Lib.hid he
      clear he
      gi_wp2_with (refine ⟨trivial, ?_⟩; gi_at_call 11; refine (CallsIn.inRound l (callsIn_wide.2 hP)).mono ?_; rintro e w' ⟨rfl, hS', hF⟩; have gA := Boxed.below' hF.below HA.out (by omega); have gI := Boxed.below' hF.below HI.out (by omega); have gC := Boxed.below' hF.below (show Boxed W (n + 1 + 1) _ _ from HC.out) (by omega); have GA := Lib.hid gA; have GI := Lib.hid gI; have GC := Lib.hid gC; have cA := gA.cell; have fA := gA.frozen; have cI := gI.cell; have fI := gI.frozen; have cC := gC.cell; have fC := gC.frozen; clear gA gI gC)
      obtain ⟨k1, k2, k3⟩ := FIN.out _ hS' hF
      have hz := HSN.out
      rw [if_neg (by rw [HER.out]; exact HE.out), HER.out] at hz
      refine ⟨(((((KeepsOthers.of_fr hF).trans (KeepsOthers.setCell _ _ _)).trans (KeepsOthers.setCell _ _ _)).trans (KeepsOthers.setCell _ _ _))).from _, ⟨⟨rfl, by rw [hz]; exact HE.out⟩, ?_, ?_⟩, ?_, ?_⟩
      · exact ((GA.out.set _).other (by omega) _).other (by omega) _
      · rw [hz]
        exact (((GC.out.other (by omega) _).other (by omega) _).set _)
      · rw [hz]
        exact ((GI.out.other (by omega) _).set _).other (by omega) _
      · exact (((HB.out.trans k3).setCell (p := ⟨n, 0, none⟩) (Nat.le_refl _) _).setCell (p := ⟨n + 1, 0, none⟩) (by simp) _).setCell (p := ⟨n + 1 + 1, 0, none⟩) (by simp; omega) _
  case done =>
    rintro D zs W hD rfl ⟨⟨hSx, hA, hC, hStr, h0⟩, hI, hB⟩ hK
    have hDn : n + 5 ≤ D := by have := HZ.out; omega
    obtain ⟨y, hy⟩ : ∃ y, (kTxt (octE 1 false s.data.toList) ks0).1 = y := ⟨_, rfl⟩
    rw [hy] at hSx
    have HE : Hid (entK s.data.toList = match y.opn with | a :: _ => ([], a, 2) | [] => (y.done, 0, 0)) := Lib.hid (by unfold entK; rw [h0, hy]; rfl)
    obtain ⟨vd, ve, vo, vw, hbx, hrow⟩ := hSx
    have HR := Lib.hid hrow; have HBX := Lib.hid hbx; have HK := Lib.hid hK
    obtain ⟨ao, co, rfl⟩ := hrow.2.2.1.shape
    obtain ⟨ad, kd, cd, rfl⟩ : ∃ a k c, vd = .slice a k c := by
      obtain ⟨ds, g1, _⟩ := hrow.1
      obtain ⟨a, c, e⟩ := g1.shape
      exact ⟨_, _, _, e⟩
    have c5 := kcell hbx 5 (.slice ao y.opn.length co) rfl
    have c0 := kcell hbx 0 (.slice ad kd cd) rfl
    have hbx' : W.heap[n + 1 + 1 + 1]? = some (.cells (sCells (.slice ad kd cd) ve (.slice ao y.opn.length co) vw y) 47) := hbx
    have cA := hA.cell; have fA := hA.frozen; have cI := hI.cell; have fI := hI.frozen
    have cC : W.cell? ⟨n + 1 + 1, 0, none⟩ = some (.int .i64 0) := hC.cell
    have fC : W.frozen? ⟨n + 1 + 1, 0, none⟩ = false := hC.frozen
    have GA := Lib.hid hA; have GI := Lib.hid hI; have GC := Lib.hid hC; have GB := Lib.hid hB
    clear hbx hrow h0 hy hA hI hC hB hStr hbx' hK
    by_cases hop : y.opn = []
    · have hl0 : y.opn.length = 0 := by rw [hop]; rfl
      rw [hl0] at c5
      clear hl0
      have HOP := Lib.hid hop
      clear hop
      gi_wp2
      refine ⟨by simp, .inl ⟨_, _, rfl, run_takeDeferred ((heap_setOther (heap_setOther (heap_setOther HK.out (show D ≠ n by omega) _) (show D ≠ n + 1 by omega) _) (show D ≠ n + 1 + 1 by omega) _)), ?_⟩⟩
      refine ⟨_, results_sii rfl Try.underlying23 Try.underlying3 Try.underlying24 _ _ rfl rfl rfl (out_cell (((GA.out.set _).other (by omega) _).other (by omega) _) (show n ≠ D by omega) _) (out_cell (((GI.out.other (by omega) _).set _).other (by omega) _) (show n + 1 ≠ D by omega) _) (out_cell (((GC.out.other (by omega) _).other (by omega) _).set _) (show n + 2 ≠ D by omega) _), ⟨_, by rw [HE.out, HOP.out]; rfl, ⟨ve, ?_⟩, ?_⟩⟩
      · rw [HE.out, HOP.out]
        have hk := heap_setOther (heap_setOther (heap_setOther HK.out (show D ≠ n by omega) (.slice ad kd cd)) (show D ≠ n + 1 by omega) (.int .i64 0)) (show D ≠ n + 1 + 1 by omega) (.int .i64 0)
        exact ((((HR.out.1.low (by omega) _).low (by omega) _).low (by omega) _).putO _ hk rfl).weaken (by have := HN.out; omega)
      · rw [HN.out]
        exact below_putO (((GB.out.setCell (p := ⟨n, 0, none⟩) (Nat.le_refl _) _).setCell (p := ⟨n + 1, 0, none⟩) (by simp) _).setCell (p := ⟨n + 1 + 1, 0, none⟩) (by simp; omega) _) (by omega) hnw
    · obtain ⟨q, rs, hop'⟩ : ∃ q rs, y.opn = q :: rs := List.exists_cons_of_ne_nil hop
      obtain ⟨m, hm⟩ : ∃ m, y.opn.length = m := ⟨_, rfl⟩
      have hm0 : 0 < m := by rw [← hm, hop']; simp
      obtain ⟨g, rfl, hg1, hg2, hgc⟩ := OwnK.cells1 (HR.out.2.2.1) hop
      have hlt0 : 0 < y.opn.length := by rw [hop']; simp
      have hc0 := hgc 0 hlt0
      have eq0 : y.opn[0]'hlt0 = q := by simp [hop']
      rw [eq0] at hc0
      rw [hm] at c5
      have HOP := Lib.hid hop'
      clear hop hop' hgc eq0 hm
      have hcs : (W.setCell ⟨n, 0, none⟩ (.slice none 0 0)).cell? ⟨g, 0, none⟩ = some (.int .i64 (q : Int)) := by
        rw [World.cell?_of_block (a := ⟨g, 0, none⟩) (Below.heap_setCell W ⟨n, 0, none⟩ (.slice none 0 0) g (show g ≠ n by omega))]; exact hc0
      have hmi : (0 : Int) < (m : Int) := by omega
      gi_wp2
      refine wpIn_region_orders [[0, 1, 2, 3, 4, 5, 6], [0, 1, 2, 4, 3, 5, 6], [0, 1, 4, 2, 3, 5, 6], [0, 4, 1, 2, 3, 5, 6], [4, 0, 1, 2, 3, 5, 6]] follows_mixed (by kernel_rfl) ?_
      have dA : Boxed W.drew n 23 (.slice none 0 0) := GA.out
      have dI : Boxed W.drew (n + 1) 3 (.int .i64 0) := GI.out
      have dC : Boxed W.drew (n + 1 + 1) 24 (.int .i64 0) := GC.out
      have dB : Below n w W.drew := kdrew GB.out
      have dK : W.drew.heap[D]? = some (.deferred (some [])) := HK.out
      have d5 : W.drew.cell? ⟨n + 1 + 1 + 1, 5, none⟩ = some (.slice (some ⟨g, 0, none⟩) m co) := c5
      have dc0 : W.drew.cell? ⟨g, 0, none⟩ = some (.int .i64 (q : Int)) := hc0
      have dcs : (W.drew.setCell ⟨n, 0, none⟩ (.slice none 0 0)).cell? ⟨g, 0, none⟩ = some (.int .i64 (q : Int)) := by
        rw [World.cell?_of_block (a := ⟨g, 0, none⟩) (Below.heap_setCell W.drew ⟨n, 0, none⟩ (.slice none 0 0) g (show g ≠ n by omega))]; exact hc0
      clear hcs c5 hc0 c0 cA fA cI fI cC fC GA GI GC GB HK HBX HR
      generalize W.drew = Wd at *
      have GA := Lib.hid dA; have GI := Lib.hid dI; have GC := Lib.hid dC; have GB := Lib.hid dB; have HK := Lib.hid dK
      have cA := dA.cell; have fA := dA.frozen; have cI := dI.cell; have fI := dI.frozen; have cC := dC.cell; have fC := dC.frozen
      clear dA dI dC dB dK
      refine ⟨?_, ?_, ?_, ?_, ?_, trivial⟩
      all_goals
        simp only [List.filterMap_cons, List.filterMap_nil, List.getElem?_toArray, List.getElem?_cons_zero, List.getElem?_cons_succ]
        change wpListIn _ _ _ _ _ [_, _, _, _, _, _, _] _ _
        gi_wp2
        refine ⟨by simp, .inl ⟨_, _, rfl, run_takeDeferred ((heap_setOther (heap_setOther (heap_setOther HK.out (show D ≠ n by omega) _) (show D ≠ n + 1 by omega) _) (show D ≠ n + 1 + 1 by omega) _)), ?_⟩⟩
        refine ⟨_, results_sii rfl Try.underlying23 Try.underlying3 Try.underlying24 _ _ rfl rfl rfl (out_cell (((GA.out.set _).other (by omega) _).other (by omega) _) (show n ≠ D by omega) _) (out_cell (((GI.out.other (by omega) _).set _).other (by omega) _) (show n + 1 ≠ D by omega) _) (out_cell (((GC.out.other (by omega) _).other (by omega) _).set _) (show n + 1 + 1 ≠ D by omega) _), ⟨_, by rw [HE.out, HOP.out], ⟨ve, ?_⟩, ?_⟩⟩
        · rw [HE.out, HOP.out]
          exact OwnEs.nil _ _ _
        · rw [HN.out]
          exact below_putO (((GB.out.setCell (p := ⟨n, 0, none⟩) (Nat.le_refl _) _).setCell (p := ⟨n + 1, 0, none⟩) (by simp) _).setCell (p := ⟨n + 1 + 1, 0, none⟩) (by simp; omega) _) (by omega) hnw
  case stop =>
    rintro D c pre W hD hp ⟨⟨⟨rfl, hne⟩, hA, hC⟩, hI, hB⟩ hK
    have hDn : n + 5 ≤ D := by have := HZ.out; omega
    obtain ⟨r, hr⟩ := hp
    have hst := txt_stop pre r ks0 hne
    rw [hr] at hst
    have HE := Lib.hid (show entK s.data.toList = ([], (kTxt pre ks0).2.1, (kTxt pre ks0).2.2) by unfold entK; rw [hst, if_pos hne])
    have GA := Lib.hid hA; have GI := Lib.hid hI; have GC := Lib.hid hC; have GB := Lib.hid hB
    clear hne hst hr hA hI hC hB
    gi_wp2
    refine ⟨by simp, .inl ⟨_, _, rfl, run_takeDeferred hK, ?_⟩⟩
    refine ⟨_, results_sii rfl Try.underlying23 Try.underlying3 Try.underlying24 _ _ rfl rfl rfl (out_cell GA.out (show n ≠ D by omega) _) (out_cell GI.out (show n + 1 ≠ D by omega) _) (out_cell GC.out (show n + 2 ≠ D by omega) _), ⟨_, by rw [HE.out], ⟨.slice none 0 0, ⟨[], ?_, ?_, ?_⟩⟩, ?_⟩⟩
    · exact OwnK.nil _ _
    · rw [HE.out]; rfl
    · intro j h; exact absurd h (Nat.not_lt_zero j)
    · rw [HN.out]
      exact below_putO GB.out (by omega) hnw
end
end Go.Proofs.Ytlgbdbaacjahpaa
