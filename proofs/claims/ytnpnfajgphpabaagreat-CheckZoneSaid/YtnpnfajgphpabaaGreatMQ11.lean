import Derived.Test.YtnpnfajgphpabaaGreatMQ22
namespace Go.Proofs.YtnpnfajgphpabaaGreat
set_option linter.unusedVariables false
set_option linter.unusedSimpArgs false
set_option linter.unusedVariables false
set_option linter.unusedSimpArgs false
set_option maxRecDepth 100000
set_option maxHeartbeats 8000000
open Go.RowKit Go.Shelf
def dataM (rs : List Rc) (n : Nm) (t : Int) : List Dat := ((ofM rs n t).getD ⟨[], 0, 0, []⟩).data
theorem qf7 {fn : Func} {t : Tmp} (h : fn.results = #[.cell t 37]) (tmps : Array Value) (W : World) {a : Nat} {x0 x1 : Value}
 (ht : tmps.getD t undef = .pointer (some ⟨a, 0, none⟩)) (hb : W.heap[a]? = some (.cells #[x0, x1] 37)) : (results fn tmps).run Tryz.prog W = .ok (.agg #[x0, x1]) W := by
 have ht' : tmps[t]?.getD undef = .pointer (some ⟨a, 0, none⟩) := by rw [← ht]; simp
 have hu : ∀ w, Sem.run Tryz.prog (underlying 37) w = .ok _ w := run_underlying Tryz.underlying37
 have y0 := kcell hb 0 _ rfl; have y1 := kcell hb 1 _ rfl
 simp [results, h, ht', loadVar, asAddr, go_sem, hu, y0, y1, isAgg]
theorem qk3 {w : World} (vo vl : Value) (o : Nm) (l : List Rc) (hO : NmAt w vo o) (hko : NmOK o) (hL : RowC w vl l) (hOK : ∀ r ∈ l, RcOK r) (hl : l.length ≤ 1000000) :
 Calls Tryz.prog 10 #[vo, vl] w (qhR w o (canonM l)) := by
 obtain ⟨css, hA, hR⟩ := hL
 have hB0 := (Below.refl w.heap.size w).alloc (qN0) (.cells #[.slice none 0 0, .slice none 0 0] 37)
 have X0 := qH0 (knew w (.cells #[.slice none 0 0, .slice none 0 0] 37))
 have hc := qeK vl css l w _ (hA.below hB0) hR hB0 hOK (by rw [hR.1]; exact hl)
 have HOKC := qH0 (qbv l hOK)
 have HLC := qH0 (show (canonM l).length ≤ 1048576 by have := qaD l; omega)
 have HB0 := qH0 hB0; have HNO := qH0 hO; have HKO := qH0 hko
 obtain ⟨ao, co, rfl, -⟩ := nmAt_sl.1 hO
 obtain ⟨qo, hqo⟩ : ∃ k, (List.map strV o).length = k := ⟨_, rfl⟩
 rw [hqo] at HNO ⊢
 obtain ⟨al, cl, rfl, -⟩ := id hA
 obtain ⟨nl, hnl⟩ : ∃ k, css.length = k := ⟨_, rfl⟩
 rw [hnl] at hc ⊢
 obtain ⟨C, hC⟩ : ∃ C, canonM l = C := ⟨_, rfl⟩
 unfold qgy at hc
 rw [hC] at hc HOKC HLC ⊢
 clear hA hR hOK hO hko hB0 hqo hnl hC hl
 go_enter Tryz.func10, Tryz.ntmps10
 go_wp2_with fail
 refine hc.mono ?_
 rintro e w1 ⟨v1, csd, rfl, ho, hr, hb1⟩
 obtain ⟨a1, c1, rfl⟩ := OwnK.shape ho
 obtain ⟨m, hm⟩ : ∃ m, csd.length = m := ⟨_, rfl⟩
 have hcm : C.length = m := by rw [← hm]; exact hr.1.symm
 rw [hm] at ho ⊢
 have hx1 := (hb1.block _ (qaa X0.out)).trans X0.out
 have HX1 := qH0 hx1
 have HB1 := qH0 (qB0 HB0.out hb1)
 have HO1 := qH0 ho; have HR1 := qH0 hr
 have HM := qH0 (show m ≤ 1048576 by have := HLC.out; omega)
 have y0 := kcell hx1 0 _ rfl; have y1 := kcell hx1 1 _ rfl; have z0 := qag hx1 0; have z1 := qag hx1 1
 clear hc ho hr hb1 hx1 hm hcm
 go_wp2_with fail
 have q0 := kset HX1.out 0 (.slice ao qo co)
 have q1 := kset q0 1 (.slice a1 m c1)
 refine bodyPost_ret (qf7 rfl _ _ rfl q1) rfl ?_
 have hbw : Below w.heap.size w ((w1.setCell ⟨w.heap.size, 0, none⟩ (.slice ao qo co)).setCell ⟨w.heap.size, 1, none⟩ (.slice a1 m c1)) := (HB1.out.setCell (p := ⟨w.heap.size, 0, none⟩) (qN0) _).setCell (p := ⟨w.heap.size, 1, none⟩) (qN0) _
 have hf : FarKeep (w.heap.size + 1) w1 ((w1.setCell ⟨w.heap.size, 0, none⟩ (.slice ao qo co)).setCell ⟨w.heap.size, 1, none⟩ (.slice a1 m c1)) := (FarKeep.set _ _ _ _ (Nat.lt_succ_self _)).trans (qaf w1 w.heap.size 0 (.slice ao qo co)).size (FarKeep.set _ _ _ _ (Nat.lt_succ_self _))
 have ho := HO1.out
 rw [World.size_alloc] at ho
 exact ⟨ao, qo, co, a1, m, c1, rfl, ⟨HNO.out.below hbw, HKO.out, ⟨csd, SlK.of_own (OwnK.move ho hf) HR1.out.ck, HR1.out.below hbw⟩, HOKC.out, HM.out⟩, hbw⟩
theorem qhO (rs : List Rc) (n : Nm) (t : Int) : hasM rs n t = (ofM rs n t).isSome := by
 cases h : ofM rs n t with
 | none =>
  have h2 := ofM_none.1 h
  rw [Option.isSome_none]
  unfold hasM
  rw [List.any_eq_false]
  intro r hr
  have := h2 r hr
  unfold belM at this
  rw [this]; simp
 | some s =>
  rw [Option.isSome_some]
  unfold hasM
  by_cases e : (rs.any fun r => decide (r.data.ty = t) && sameN r.owner n) = true
  ·exact e
  ·exfalso
   rw [Bool.not_eq_true, List.any_eq_false] at e
   have : ofM rs n t = none := ofM_none.2 (fun r hr => by have := e r hr; unfold belM; simpa using this)
   rw [this] at h; cases h
end Go.Proofs.YtnpnfajgphpabaaGreat
namespace Go.Proofs.YtnpnfajgphpabaaGreat
set_option linter.unusedVariables false
set_option linter.unusedSimpArgs false
set_option maxRecDepth 20000
open Go.RowKit
theorem cF_lt {a b c : Fl} (h1 : qaj a b < 0) (h2 : qaj b c < 0) : qaj a c < 0 := by
 have t1 := cord_compareF.trans a b c (by omega) (by omega)
 by_cases e : qaj a c = 0
 ·have t2 := cord_compareF.anti a c
  have t3 := cord_compareF.trans b c a (by omega) (by omega)
  have t4 := cord_compareF.anti a b
  omega
 ·omega
def addF : List Fl → Fl → List Fl
 | [], f => [f]
 | x :: r, f => if qaj x f < 0 then x :: addF r f else if qaj x f = 0 then x :: r else f :: x :: r
theorem qgR : ∀ (l : List Fl) (f : Fl) (k : Nat), k ≤ l.length → (∀ j (h : j < l.length), j < k → qaj l[j] f < 0) → (∀ h : k < l.length, 0 < qaj l[k] f) → addF l f = l.take k ++ f :: l.drop k
 | [], f, k, hk, _, _ => by
  obtain rfl : k = 0 := by simpa using hk
  rfl
 | x :: r, f, 0, _, _, h2 => by
  have h := h2 (by simp)
  simp only [List.getElem_cons_zero] at h
  unfold addF
  rw [if_neg (by omega), if_neg (by omega)]; rfl
 | x :: r, f, k + 1, hk, h1, h2 => by
  have h := h1 0 (by simp) (by omega)
  simp only [List.getElem_cons_zero] at h
  unfold addF
  rw [if_pos h, qgR r f k (by simpa using hk) (fun j hj hk => by have := h1 (j + 1) (by simp; omega) (by omega); simpa using this) (fun hj => by have := h2 (by simp; omega); simpa using this)]
  rfl
theorem qg4 : ∀ (l : List Fl) (f : Fl) (k : Nat) (hk : k < l.length), (∀ j (h : j < l.length), j < k → qaj l[j] f < 0) → qaj l[k] f = 0 → addF l f = l
 | [], f, k, hk, _, _ => absurd hk (by simp)
 | x :: r, f, 0, _, _, h2 => by
  simp only [List.getElem_cons_zero] at h2
  unfold addF
  rw [if_neg (by omega), if_pos h2]
 | x :: r, f, k + 1, hk, h1, h2 => by
  have h := h1 0 (by simp) (by omega)
  simp only [List.getElem_cons_zero] at h
  unfold addF
  rw [if_pos h, qg4 r f k (by simpa using hk) (fun j hj hk => by have := h1 (j + 1) (by simp; omega) (by omega); simpa using this) (by simpa using h2)]
theorem qkk (l : List Fl) (f : Fl) : (addF l f).length ≤ l.length + 1 := by
 induction l with
 | nil => simp [addF]
 | cons x r ih =>
  unfold addF
  split
  ·simpa using ih
  ·split <;> simp
theorem qgP {l : List Fl} {f g : Fl} (h : g ∈ addF l f) : g ∈ l ∨ g = f := by
 induction l with
 | nil => simp [addF] at h; exact .inr h
 | cons x r ih =>
  unfold addF at h
  split at h
  ·rcases List.mem_cons.1 h with rfl | h
   ·exact .inl (by simp)
   ·rcases ih h with h | h
    ·exact .inl (List.mem_cons_of_mem _ h)
    ·exact .inr h
  ·split at h
   ·exact .inl h
   ·rcases List.mem_cons.1 h with rfl | h
    ·exact .inr rfl
    ·exact .inl h
theorem qji (l : List Fl) (f : Fl) (h : ∀ x ∈ l, qaj x f ≠ 0) : (addF l f).Perm (l ++ [f]) := by
 induction l with
 | nil => exact List.Perm.refl _
 | cons x r ih =>
  unfold addF
  split
  ·exact (ih fun y hy => h y (List.mem_cons_of_mem _ hy)).cons x
  ·rw [if_neg (h x (by simp))]
   exact (List.perm_append_comm (l₁ := x :: r) (l₂ := [f])).symm
theorem qhf (l : List Fl) (f : Fl) (hs : l.Pairwise fun a b => qaj a b < 0) : (addF l f).Pairwise fun a b => qaj a b < 0 := by
 induction l with
 | nil => simp [addF]
 | cons x r ih =>
  obtain ⟨h1, h2⟩ := List.pairwise_cons.1 hs
  unfold addF
  split
  ·rename_i hx
   refine List.pairwise_cons.2 ⟨fun y hy => ?_, ih h2⟩
   rcases qgP hy with hy | rfl
   ·exact h1 y hy
   ·exact hx
  ·split
   ·exact hs
   ·rename_i h3 h4
    have h5 : qaj f x < 0 := by have := cord_compareF.anti f x; omega
    refine List.pairwise_cons.2 ⟨fun y hy => ?_, hs⟩
    rcases List.mem_cons.1 hy with rfl | hy
    ·exact h5
    ·exact cF_lt h5 (h1 y hy)
theorem foldF : ∀ (m l : List Fl), (l ++ m).Pairwise (fun a b => qaj a b ≠ 0) → l.Pairwise (fun a b => qaj a b < 0) → (m.foldl addF l).Perm (l ++ m) ∧ (m.foldl addF l).Pairwise fun a b => qaj a b < 0
 | [], l, _, h2 => by simpa using h2
 | f :: m, l, h1, h2 => by
  have hne : ∀ x ∈ l, qaj x f ≠ 0 := fun x hx => (List.pairwise_append.1 h1).2.2 x hx f (by simp)
  have hp := qji l f hne
  have hp2 : (addF l f ++ m).Perm (l ++ f :: m) := by
   have := hp.append_right m
   rw [List.append_assoc] at this
   exact this
  have h := foldF m (addF l f) (qeE hp2 h1) (qhf l f h2)
  exact ⟨h.1.trans hp2, h.2⟩
theorem qd8 : ∀ (l m : List Fl), l.Perm m → l.Pairwise (fun a b => qaj a b < 0) → m.Pairwise (fun a b => qaj a b < 0) → l = m
 | [], m, h, _, _ => (List.nil_perm.1 h).symm
 | a :: r, [], h, _, _ => absurd h.length_eq (by simp)
 | a :: r, b :: s, h, h1, h2 => by
  have ha : a ∈ b :: s := h.mem_iff.1 (by simp)
  have hb : b ∈ a :: r := h.mem_iff.2 (by simp)
  have e : a = b := by
   rcases List.mem_cons.1 ha with e | ha
   ·exact e
   ·rcases List.mem_cons.1 hb with e | hb
    ·exact e.symm
    ·have x1 := (List.pairwise_cons.1 h2).1 a ha
     have x2 := (List.pairwise_cons.1 h1).1 b hb
     have := cord_compareF.anti a b
     omega
  subst e
  rw [qd8 r s (List.Perm.cons_inv h) (List.pairwise_cons.1 h1).2 (List.pairwise_cons.1 h2).2]
def coverR (o : Nm) (rs : List Rc) (n : Nm) : Bool := (List.range' 1 n.length).any fun i => decide (whereM o rs (n.drop i) = 1) && hasM rs (n.drop i) 39
theorem qle {rs : List Rc} (hst : StrictR rs) (o n : Nm) : coverR o rs n = coverM (qaB o rs (setsM rs)) n := by
 rw [Bool.eq_iff_iff]
 unfold coverR coverM
 simp only [List.any_eq_true, Bool.and_eq_true, decide_eq_true_eq, List.mem_range'_1]
 constructor
 ·rintro ⟨i, ⟨h1, h2⟩, h3, h4⟩
  unfold hasM at h4
  simp only [List.any_eq_true, Bool.and_eq_true, decide_eq_true_eq] at h4
  obtain ⟨r, hr, ht, hn⟩ := h4
  obtain ⟨s, hs, hb⟩ := qcZ _ rs (qN0) r hr
  unfold belM at hb
  simp only [Bool.and_eq_true, decide_eq_true_eq] at hb
  have hso : sameN s.owner (n.drop i) = true := qa6 (by rw [qaR]; exact hb.2) hn
  have hl := qcU hso
  rw [List.length_drop] at hl
  refine ⟨s.owner, ?_, by omega, ?_⟩
  ·unfold qaB
   refine List.mem_map.2 ⟨s, List.mem_filter.2 ⟨hs, ?_⟩, rfl⟩
   simp only [Bool.and_eq_true, decide_eq_true_eq]
   exact ⟨by rw [← hb.1]; exact ht, by rw [qeC hso]; exact h3⟩
  ·unfold underN
   simp only [Bool.and_eq_true, decide_eq_true_eq]
   refine ⟨by omega, ?_⟩
   rw [hl, show n.length - (n.length - i) = i by omega, qaR]
   exact hso
 ·rintro ⟨c, hc, h1, h2⟩
  unfold qaB at hc
  obtain ⟨s, hs, rfl⟩ := List.mem_map.1 hc
  obtain ⟨hs, hp⟩ := List.mem_filter.1 hs
  simp only [Bool.and_eq_true, decide_eq_true_eq] at hp
  unfold underN at h2
  simp only [Bool.and_eq_true, decide_eq_true_eq] at h2
  refine ⟨n.length - s.owner.length, by omega, by rw [qeC h2.2]; exact hp.2, ?_⟩
  obtain ⟨y, r, e, hy, -⟩ := qbh _ rs (qN0) hst s hs
  unfold hasM
  simp only [List.any_eq_true, Bool.and_eq_true, decide_eq_true_eq]
  rw [e] at hp h2 ⊢
  refine ⟨y, hy, hp.1, ?_⟩
  rw [qaR]; exact h2.2
theorem qhx {rs : List Rc} (hc : canonM rs = rs) (hst : StrictR rs) {s : St} (hs : s ∈ setsM rs) : decide (1 < (typesM s.owner rs).length) = otherM (setsM rs) s := by
 have ht := qee rs s.owner
 rw [hc] at ht
 have hp := qf3 (l := rs) (o := s.owner)
 rw [hc] at hp
 rw [ht]
 obtain ⟨F, hF⟩ : ∃ F, (setsM rs).filter (fun x => sameN x.owner s.owner) = F := ⟨_, rfl⟩
 rw [hF] at hp ⊢
 have hm : s ∈ F := by rw [← hF]; exact List.mem_filter.2 ⟨hs, qc0 _⟩
 rw [Bool.eq_iff_iff]
 unfold otherM
 simp only [List.length_map, decide_eq_true_eq, List.any_eq_true, Bool.and_eq_true]
 constructor
 ·intro h
  match F, h, hp, hm, hF with
  | a :: b :: r, _, hp, hm, hF =>
   simp only [List.map_cons, List.pairwise_cons] at hp
   have hab := hp.1 b.ty (by simp)
   have h2 : ∀ x ∈ a :: b :: r, x ∈ setsM rs ∧ sameN x.owner s.owner = true := fun x hx => by rw [← hF] at hx; exact List.mem_filter.1 hx
   by_cases e : a.ty = s.ty
   ·exact ⟨b, (h2 b (by simp)).1, by omega, (h2 b (by simp)).2⟩
   ·exact ⟨a, (h2 a (by simp)).1, e, (h2 a (by simp)).2⟩
 ·rintro ⟨x, hx, h1, h2⟩
  have hxF : x ∈ F := by rw [← hF]; exact List.mem_filter.2 ⟨hx, h2⟩
  match F, hm, hxF with
  | [], hm, _ => cases hm
  | [a], hm, hxF =>
   rw [List.mem_singleton] at hm hxF
   rw [hm, hxF] at h1; exact absurd rfl h1
  | a :: b :: r, _, _ => simp
def checkM (o : Nm) (rs : List Rc) : List Fl := (allF o rs).foldl addF []
theorem qkT {o : Nm} {rs : List Rc} (hst : StrictR rs) {fs : List Fl} (hp : fs.Perm (allF o rs)) (hs : fs.Pairwise fun a b => qaj a b ≤ 0) : fs = checkM o rs := by
 have h0 := qiv o hst
 have h1 := foldF (allF o rs) [] h0 List.Pairwise.nil
 exact qd8 _ _ (hp.trans h1.1.symm) (qhb hp h0 hs) h1.2
end Go.Proofs.YtnpnfajgphpabaaGreat
namespace Go.Proofs.YtnpnfajgphpabaaGreat
set_option linter.unusedVariables false
set_option linter.unusedSimpArgs false
set_option maxRecDepth 100000
set_option maxHeartbeats 16000000
open Go.RowKit Go.Shelf
theorem qev (a b : Int) (w : World) : Calls Tryz.prog 90 #[.int .i64 a, .int .i64 b] w fun e w' => e = .returned (.int .i64 (cmpI a b)) ∧ w' = w := by
 have HC := qH0 (show cmpI a b = if a < b then -1 else if b < a then 1 else 0 from rfl)
 generalize cmpI a b = res at *
 go_enter Tryz.func90, Tryz.ntmps90
 by_cases h1 : a < b
 ·have H : Hid (res = -1) := qH0 (by rw [HC.out, if_pos h1])
  go_wp2
  go_ret
  exact ⟨by rw [H.out]; rfl, rfl⟩
 ·by_cases h2 : b < a
  ·have H : Hid (res = 1) := qH0 (by rw [HC.out, if_neg h1, if_pos h2])
   go_wp2
   go_ret
   exact ⟨by rw [H.out]; rfl, rfl⟩
  ·have H : Hid (res = 0) := qH0 (by rw [HC.out, if_neg h1, if_neg h2])
   go_wp2
   go_ret
   exact ⟨by rw [H.out]; rfl, rfl⟩
theorem qeJ (a0 : Option Addr) (n0 c0 : Nat) (b0 : Option Addr) (m0 d0 : Nat) (f g : Fl) (w : World) (hA : NmAt w (.slice a0 n0 c0) f.owner) (hB : NmAt w (.slice b0 m0 d0) g.owner) (hk : NmOK f.owner) (hk2 : NmOK g.owner) :
 Calls Tryz.prog 61 #[.agg #[.int .i64 f.kind, .slice a0 n0 c0, .int .i64 f.ty], .agg #[.int .i64 g.kind, .slice b0 m0 d0, .int .i64 g.ty]] w fun e w' => e = .returned (.int .i64 (qaj f g)) ∧ Below w.heap.size w w' := by
 have HR := qH0 (show qaj f g = orI (qai f.owner g.owner) (orI (cmpI f.kind g.kind) (cmpI f.ty g.ty)) from rfl)
 generalize qaj f g = res at *
 have HC := qH0 (fun (W : World) (hb : Below w.heap.size w W) => qd2 (.slice a0 n0 c0) (.slice b0 m0 d0) f.owner g.owner _ rfl W (hA.below hb) (hB.below hb) hk hk2)
 obtain ⟨cv, hcv⟩ : ∃ c, qai f.owner g.owner = c := ⟨_, rfl⟩
 rw [hcv] at HC HR
 generalize f.kind = k1 at *
 generalize g.kind = k2 at *
 generalize f.ty = t1 at *
 generalize g.ty = t2 at *
 obtain ⟨W0, hW0⟩ : ∃ W, (w.alloc (.cells #[.int .i64 k1, .slice a0 n0 c0, .int .i64 t1] 56)).alloc (.cells #[.int .i64 k2, .slice b0 m0 d0, .int .i64 t2] 56) = W := ⟨_, rfl⟩
 have HB0 : Hid (Below w.heap.size w W0) := qH0 (by rw [← hW0]; exact ((Below.refl w.heap.size w).alloc (qN0) _).alloc (by simp) _)
 have x0 : W0.heap[w.heap.size]? = some (.cells #[.int .i64 k1, .slice a0 n0 c0, .int .i64 t1] 56) := by
  rw [← hW0]; exact (Below.heap_alloc _ _ _ (by simp)).trans (knew w _)
 have x1 : W0.heap[w.heap.size + 1]? = some (.cells #[.int .i64 k2, .slice b0 m0 d0, .int .i64 t2] 56) := by
  have h := knew (w.alloc (.cells #[.int .i64 k1, .slice a0 n0 c0, .int .i64 t1] 56)) (.cells #[.int .i64 k2, .slice b0 m0 d0, .int .i64 t2] 56)
  rw [World.size_alloc] at h
  rw [← hW0]; exact h
 have X0 := qH0 x0; have X1 := qH0 x1
 have y1 := kcell x0 1 _ rfl; have z1 := kcell x1 1 _ rfl
 have hc := HC.out W0 HB0.out
 clear hA hB hk hk2 x0 x1 HC hcv
 go_enter Tryz.func61, Tryz.ntmps61
 go_wp2_with fail
 clear hW0
 refine hc.mono ?_
 rintro e w1 ⟨rfl, hb1⟩
 have HB1 := qH0 (qB0 HB0.out hb1)
 have hx0 := (hb1.block _ (qaa X0.out)).trans X0.out
 have hx1 := (hb1.block _ (qaa X1.out)).trans X1.out
 have y0 := kcell hx0 0 _ rfl; have y2 := kcell hx0 2 _ rfl
 have z0 := kcell hx1 0 _ rfl; have z2 := kcell hx1 2 _ rfl
 clear hc hb1 hx0 hx1 X0 X1 HB0 y1 z1
 by_cases h0 : cv = 0
 ·subst h0
  by_cases hkk : k1 = k2
  ·subst hkk
   have hkb : (k1 != k1) = false := by simp
   have H1 : Hid (res = cmpI t1 t2) := qH0 (by rw [HR.out, orI, if_pos rfl, orI, if_pos (by rw [cmpI_zero])])
   have hc := qev t1 t2 w1
   clear HR
   go_wp2_with fail
   refine hc.mono ?_
   rintro e w2 ⟨rfl, rfl⟩
   go_wp2
   go_ret
   exact ⟨by rw [H1.out]; rfl, HB1.out⟩
  ·have hkb : (k1 != k2) = true := by simp [hkk]
   have H1 : Hid (res = cmpI k1 k2) := qH0 (by rw [HR.out, orI, if_pos rfl, orI, if_neg (fun e => hkk (cmpI_zero.1 e))])
   have hc := qev k1 k2 w1
   clear HR hkk
   go_wp2_with fail
   refine hc.mono ?_
   rintro e w2 ⟨rfl, rfl⟩
   go_wp2
   go_ret
   exact ⟨by rw [H1.out]; rfl, HB1.out⟩
 ·have h0b : (cv != 0) = true := by simp [h0]
  have H1 : Hid (res = cv) := qH0 (by rw [HR.out, orI, if_neg h0])
  clear HR
  go_wp2
  go_ret
  exact ⟨by rw [H1.out]; rfl, HB1.out⟩
theorem qgk {w : World} {za v1 : Option Addr} {zn zc m c : Nat} {o n : Nm} {rs : List Rc} {vn : Value} (h : ZonS w za zn zc v1 m c o rs) (hO : NmAt w vn n) (hko : NmOK n) :
 Calls Tryz.prog 31 #[.agg #[.slice za zn zc, .slice v1 m c], vn] w fun e w' => e = .returned (.bool (coverR o rs n)) ∧ Below w.heap.size w w' := by
 obtain ⟨ao, cn, rfl, -⟩ := nmAt_sl.1 hO
 obtain ⟨qn, hqn⟩ : ∃ q, (List.map strV n).length = q := ⟨_, rfl⟩
 have HQN := qH0 (show n.length = qn by rw [← hqn, List.length_map])
 rw [hqn] at hO ⊢
 clear hqn
 have HNO := qH0 hO; have HKN := qH0 hko
 have HTRUE := qH0 (fun (k : Nat) (h1 : 1 ≤ k) (h2 : k ≤ qn) (h3 : whereM o rs (n.drop k) = 1) (h4 : hasM rs (n.drop k) 39 = true) => (show coverR o rs n = true by
  unfold coverR
  simp only [List.any_eq_true, Bool.and_eq_true, decide_eq_true_eq, List.mem_range'_1]
  exact ⟨k, ⟨h1, by have := HQN.out; omega⟩, h3, h4⟩))
 have HFALSE := qH0 (fun (hn : ∀ j : Nat, 1 ≤ j → j < qn + 1 → (decide (whereM o rs (n.drop j) = 1) && hasM rs (n.drop j) 39) = false) => (show coverR o rs n = false by
  unfold coverR
  rw [List.any_eq_false]
  intro j hj
  rw [List.mem_range'_1] at hj
  rw [hn j hj.1 (by have := HQN.out; omega)]; simp))
 generalize coverR o rs n = res at *
 have X0 := knew w (.cells #[.slice za zn zc, .slice v1 m c] 37)
 have HB0 := qH0 ((Below.refl w.heap.size w).alloc (qN0) (.cells #[.slice za zn zc, .slice v1 m c] 37))
 obtain ⟨w2, hw2⟩ : ∃ w2, w.alloc (.cells #[.slice za zn zc, .slice v1 m c] 37) = w2 := ⟨_, rfl⟩
 obtain ⟨B, hB⟩ : ∃ B, w.heap.size = B := ⟨_, rfl⟩
 have hHB : Below w.heap.size w w2 := by rw [← hw2]; exact HB0.out
 have HB0 := qH0 hHB
 rw [hw2, hB] at X0
 have HY := qH0 (fun W (hb : Below w2.heap.size w2 W) => And.intro (kcell ((hb.block _ (qaa X0)).trans X0) 0 _ rfl) (kcell ((hb.block _ (qaa X0)).trans X0) 1 _ rfl))
 have HZ := qH0 (fun W (hb : Below w2.heap.size w2 W) => h.below (qB0 hHB hb))
 clear h hO hko X0 hHB
 go_enter Tryz.func31, Tryz.ntmps31
 go_wp2
 clear hw2 hB
 go_loopw [5] (fun vi wr => ∃ k : Nat, vi = .int .i64 k ∧ 1 ≤ k ∧ k ≤ qn + 1 ∧ Hid (∀ j : Nat, 1 ≤ j → j < k → (decide (whereM o rs (n.drop j) = 1) && hasM rs (n.drop j) 39) = false) ∧ Hid (Below w2.heap.size w2 wr)) (fun vi _ => qn + 1 - (intOf vi).toNat)
 case atStart => exact ⟨1, rfl, qN0, by omega, qH0 (fun j a b => by omega), qH0 (qL0)⟩
 case round =>
  obtain ⟨k, rfl, hk1, hk2, HN, HB⟩ := hrel
  have hqn20 : qn ≤ 1048576 := by have := HKN.out.1; have := HQN.out; omega
  by_cases hlt : k ≤ qn
  ·have hltz : (k : Int) ≤ (qn : Int) := by omega
   have hkz : (0 : Int) ≤ (k : Int) := by omega
   have hqc : qn ≤ cn := nm_cap HNO.out
   have hkcz : (k : Int) ≤ (cn : Int) := by omega
   have hqcz : (qn : Int) ≤ (cn : Int) := by omega
   have HKO' := qH0 (show NmOK (n.drop k) by rw [qb2 (by have := HQN.out; omega)]; exact qg5 HKN.out _)
   rcases qfJ HNO.out hlt with ⟨hck, hm⟩ | ⟨hck, hq0, hk0, ⟨ad, rfl⟩, hm⟩ | ⟨hck, hq0, g, off, rfl, hm⟩
   ·subst hck
    obtain rfl : qn = cn := by omega
    simp only [Nat.sub_self] at hm
    have HC1 := qH0 (fun (W : World) (hb : Below w2.heap.size w2 W) => qdL (HZ.out W hb) (hm.below (qB0 HB0.out hb)) HKO'.out)
    have HC2 := qH0 (fun (W : World) (hb : Below w2.heap.size w2 W) => qdT 39 (HZ.out W hb) (hm.below (qB0 HB0.out hb)) HKO'.out)
    obtain ⟨wv, hwv⟩ : ∃ v, whereM o rs (n.drop qn) = v := ⟨_, rfl⟩
    obtain ⟨hv, hhv⟩ : ∃ v, hasM rs (n.drop qn) 39 = v := ⟨_, rfl⟩
    rw [hwv] at HC1
    rw [hhv] at HC2
    have HWV := qH0 hwv; have HHV := qH0 hhv
    have hcw := fun p : WIn (fun W => Below w2.heap.size w2 W) => Calls.cls (C := fun W => Below w2.heap.size w2 W) ((HC1.out p.w p.ok).mono fun _ _ ⟨hq, hb⟩ => ⟨hq, p.ok.trans (hb.mono p.ok.size)⟩)
    have hch := fun p : WIn (fun W => Below w2.heap.size w2 W) => Calls.cls (C := fun W => Below w2.heap.size w2 W) ((HC2.out p.w p.ok).mono fun _ _ ⟨hq, hb⟩ => ⟨hq, p.ok.trans (hb.mono p.ok.size)⟩)
    have f0 := fun p : WIn (fun W => Below w2.heap.size w2 W) => (HY.out p.w p.ok).1
    have f1 := fun p : WIn (fun W => Below w2.heap.size w2 W) => (HY.out p.w p.ok).2
    have hne : Nonempty (WIn (fun W => Below w2.heap.size w2 W)) := ⟨⟨wr, HB.out⟩⟩
    have hcl : (fun W => Below w2.heap.size w2 W) wr.drew := HB.out.trans ⟨rfl, rfl, rfl, qN0, fun _ _ => rfl⟩
    clear hm hwv hhv HC1 HC2
    by_cases hw1 : wv = 1
    ·subst hw1
     go_wp2_with fail
     refine qad (fun W => Below w2.heap.size w2 W) qae (by kernel_rfl) hcl ?_
     repeat (go_big_quiet_step (first | with_reducible exact hcw _ | with_reducible exact hch _))
     refine wpQuiet_nil ?_
     rintro _ ⟨p, rfl⟩
     have HP := qH0 p.ok
     clear hcw hch f0 f1
     cases hv
     ·go_wp2
      go_roundw
      case measure => simp [intOf]
      case rel => exact ⟨qn + 1, by go_num, by omega, by omega, qH0 (fun j h1 h2 => by
       by_cases hj : j < qn
       ·exact HN.out j h1 hj
       ·obtain rfl : j = qn := by omega
        rw [HWV.out, HHV.out]; rfl), HP⟩
     ·have H1 := qH0 (HTRUE.out qn (by omega) (by omega) HWV.out HHV.out)
      go_wp2
      go_ret
      exact ⟨by rw [H1.out]; rfl, qB0 HB0.out HP.out⟩
    ·have hwb : (wv == 1) = false := by simpa using hw1
     go_wp2_with fail
     refine qad (fun W => Below w2.heap.size w2 W) qae (by kernel_rfl) hcl ?_
     repeat (go_big_quiet_step (first | with_reducible exact hcw _ | with_reducible exact hch _))
     refine wpQuiet_nil ?_
     rintro _ ⟨p, rfl⟩
     have HP := qH0 p.ok
     clear hcw hch f0 f1
     go_wp2
     go_roundw
     case measure => simp [intOf]
     case rel => exact ⟨qn + 1, by go_num, by omega, by omega, qH0 (fun j h1 h2 => by
      by_cases hj : j < qn
      ·exact HN.out j h1 hj
      ·obtain rfl : j = qn := by omega
       rw [HWV.out]; simp [hw1]), HP⟩
   ·omega
   ·have HC1 := qH0 (fun (W : World) (hb : Below w2.heap.size w2 W) => qdL (HZ.out W hb) (hm.below (qB0 HB0.out hb)) HKO'.out)
    have HC2 := qH0 (fun (W : World) (hb : Below w2.heap.size w2 W) => qdT 39 (HZ.out W hb) (hm.below (qB0 HB0.out hb)) HKO'.out)
    obtain ⟨wv, hwv⟩ : ∃ v, whereM o rs (n.drop k) = v := ⟨_, rfl⟩
    obtain ⟨hv, hhv⟩ : ∃ v, hasM rs (n.drop k) 39 = v := ⟨_, rfl⟩
    rw [hwv] at HC1
    rw [hhv] at HC2
    have HWV := qH0 hwv; have HHV := qH0 hhv
    have hcw := fun p : WIn (fun W => Below w2.heap.size w2 W) => Calls.cls (C := fun W => Below w2.heap.size w2 W) ((HC1.out p.w p.ok).mono fun _ _ ⟨hq, hb⟩ => ⟨hq, p.ok.trans (hb.mono p.ok.size)⟩)
    have hch := fun p : WIn (fun W => Below w2.heap.size w2 W) => Calls.cls (C := fun W => Below w2.heap.size w2 W) ((HC2.out p.w p.ok).mono fun _ _ ⟨hq, hb⟩ => ⟨hq, p.ok.trans (hb.mono p.ok.size)⟩)
    have f0 := fun p : WIn (fun W => Below w2.heap.size w2 W) => (HY.out p.w p.ok).1
    have f1 := fun p : WIn (fun W => Below w2.heap.size w2 W) => (HY.out p.w p.ok).2
    have hne : Nonempty (WIn (fun W => Below w2.heap.size w2 W)) := ⟨⟨wr, HB.out⟩⟩
    have hcl : (fun W => Below w2.heap.size w2 W) wr.drew := HB.out.trans ⟨rfl, rfl, rfl, qN0, fun _ _ => rfl⟩
    clear hm hwv hhv HC1 HC2
    by_cases hw1 : wv = 1
    ·subst hw1
     go_wp2_with fail
     refine qad (fun W => Below w2.heap.size w2 W) qae (by kernel_rfl) hcl ?_
     repeat (go_big_quiet_step (first | with_reducible exact hcw _ | with_reducible exact hch _))
     refine wpQuiet_nil ?_
     rintro _ ⟨p, rfl⟩
     have HP := qH0 p.ok
     clear hcw hch f0 f1
     cases hv
     ·go_wp2
      go_roundw
      case measure => simp [intOf]; omega
      case rel => exact ⟨k + 1, by go_num, by omega, by omega, qH0 (fun j h1 h2 => by
       by_cases hj : j < k
       ·exact HN.out j h1 hj
       ·obtain rfl : j = k := by omega
        rw [HWV.out, HHV.out]; rfl), HP⟩
     ·have H1 := qH0 (HTRUE.out k (by omega) (by omega) HWV.out HHV.out)
      go_wp2
      go_ret
      exact ⟨by rw [H1.out]; rfl, qB0 HB0.out HP.out⟩
    ·have hwb : (wv == 1) = false := by simpa using hw1
     go_wp2_with fail
     refine qad (fun W => Below w2.heap.size w2 W) qae (by kernel_rfl) hcl ?_
     repeat (go_big_quiet_step (first | with_reducible exact hcw _ | with_reducible exact hch _))
     refine wpQuiet_nil ?_
     rintro _ ⟨p, rfl⟩
     have HP := qH0 p.ok
     clear hcw hch f0 f1
     go_wp2
     go_roundw
     case measure => simp [intOf]; omega
     case rel => exact ⟨k + 1, by go_num, by omega, by omega, qH0 (fun j h1 h2 => by
      by_cases hj : j < k
      ·exact HN.out j h1 hj
      ·obtain rfl : j = k := by omega
       rw [HWV.out]; simp [hw1]), HP⟩
  ·obtain rfl : k = qn + 1 := by omega
   have H1 := qH0 (HFALSE.out HN.out)
   have hltz : ¬ ((qn + 1 : Nat) : Int) ≤ (qn : Int) := by omega
   go_wp2
   go_ret
   exact ⟨by rw [H1.out]; rfl, qB0 HB0.out HB.out⟩
def RowsW (w0 w w' : World) (v : Value) (l : List St) : Prop := ∀ W', FarKeep w.heap.size w' W' → Below w0.heap.size w0 W' → RowS W' v l
theorem qiK {w0 w w' : World} {l : List St} {v : Value} {css : List (List Value)} (hl : css.length = l.length) (h : ∀ W', FarKeep w.heap.size w' W' → SlK W' v css ∧ ∀ j (h1 : j < css.length) (h2 : j < l.length), RSetP w0 W' css[j] l[j]) : RowsW w0 w w' v l := fun W' hk hb =>
 ⟨css, (h W' hk).1, hl, fun j a b => ((h W' hk).2 j a b).setR hb⟩
theorem RowS.le {W : World} {a : Option Addr} {n c : Nat} {l : List St} (h : RowS W (.slice a n c) l) : n = l.length ∧ n ≤ c := by
 obtain ⟨csd, ⟨a', c', e, h1, _⟩, h2, _⟩ := h
 injection e with _ e2 e3
 have e4 : c = c' := e3
 exact ⟨by rw [e2, h2], by omega⟩
theorem qie {l : List St} {o : Nm} {k : Nat} (h : k < l.length) : (((l.take (k + 1)).filter fun s => sameN s.owner o).map St.ty) = (((l.take k).filter fun s => sameN s.owner o).map St.ty) ++ (if sameN l[k].owner o then [l[k].ty] else []) := by
 rw [List.take_succ_eq_append_getElem h, List.filter_append, List.map_append]
 congr 1
 by_cases e : sameN l[k].owner o = true
 ·simp [e]
 ·simp [e]
theorem qhJ (v vo : Value) (o : Nm) (cs0 : List (List Value)) (l : List Rc) (w : World) (hA : SlK w v cs0) (hR : Rcs w cs0 l) (hO : NmAt w vo o) (hko : NmOK o) (hOK : ∀ r ∈ l, RcOK r) (hl : cs0.length ≤ 1000000) :
 Calls Tryz.prog 30 #[v, vo] w (TyPost w (typesM o l)) := by
 have hc := qeo w w v cs0 l hA hR (qL0) hOK hl
 unfold qdx at hc
 have hoks : ∀ s ∈ setsM (canonM l), NmOK s.owner := fun s h => (qcg hOK h).1
 have hsl : (setsM (canonM l)).length ≤ 1000000 := by
  have h1 := qb5 _ (canonM l) (qN0)
  have h2 := qaD l
  have h3 : l.length ≤ 1000000 := by rw [← hR.1]; exact hl
  omega
 have hty := qee l o
 obtain ⟨S, hS⟩ : ∃ S, setsM (canonM l) = S := ⟨_, rfl⟩
 rw [hS] at hoks hty hsl hc
 have HTY := qH0 hty; have HOKS := qH0 hoks; have HNO := qH0 hO; have HKO := qH0 hko
 obtain ⟨a, c, rfl, -⟩ := id hA
 obtain ⟨ao, co, rfl, -⟩ := nmAt_sl.1 hO
 obtain ⟨qo, hqo⟩ : ∃ k, (List.map strV o).length = k := ⟨_, rfl⟩
 rw [hqo] at HNO ⊢
 obtain ⟨n0, hn0⟩ : ∃ k, cs0.length = k := ⟨_, rfl⟩
 rw [hn0] at hc ⊢
 generalize typesM o l = res at *
 clear hA hR hO hko hOK hl hoks hS hqo hn0 hty
 go_enter Tryz.func30, Tryz.ntmps30
 go_wp2_with fail
 refine hc.mono ?_
 rintro e w1 ⟨v1, css, rfl, hcl, hrs, hb1⟩
 have hrow := qiK hcl hrs
 have HRW := qH0 (hrow w1 (FarKeep.refl _ _) hb1)
 have HB1 := qH0 hb1
 obtain ⟨sa, sc, rfl⟩ := HRW.out.shape
 obtain ⟨n, hn⟩ : ∃ n, S.length = n := ⟨_, rfl⟩
 have HN := qH0 hn
 rw [hn] at HRW ⊢
 have hnx : n ≤ 1000000 := by omega
 clear hc hrs hb1 hrow hcl hn hsl
 go_wp2
 go_loopw [5, 7] (fun vo vi wr => ∃ (k q : Nat) (ga : Option Addr) (gc : Nat) (zs : List Int), vo = .slice ga q gc ∧ vi = .int .i64 k ∧ k ≤ n ∧ Hid (zs.length = q ∧ q ≤ k) ∧ Hid (zs = ((S.take k).filter fun s => sameN s.owner o).map St.ty) ∧ Hid (OwnG 3 iv wr w1.heap.size (.slice ga q gc) zs) ∧ Hid (Below w1.heap.size w1 wr)) (fun _ vi _ => n - (intOf vi).toNat)
 case atStart => exact ⟨0, 0, none, 0, [], rfl, rfl, Nat.zero_le _, qH0 ⟨rfl, qN0⟩, qH0 rfl, qH0 (OwnG.nil _ _), qH0 (qL0)⟩
 case round =>
  obtain ⟨k, q, ga, gc, zs, rfl, rfl, hk, HQ, HZ, HO, HB⟩ := hrel
  have HBW := qH0 (qB0 HB1.out HB.out)
  by_cases hlt : k < n
  ·have hltz : (k : Int) < (n : Int) := by omega
   have hk1 : k < S.length := by have := HN.out; omega
   obtain ⟨b, off, rfl, hb, hel⟩ := HRW.out.elem (by omega)
   obtain ⟨⟨p0, q0, r0⟩, ⟨p3, q3, r3⟩, hset, hce⟩ := hel k hk1
   have HTK := qH0 (qie (o := o) hk1)
   have hks := HOKS.out _ (List.getElem_mem hk1)
   obtain ⟨s, hs⟩ : ∃ s, S[k]'hk1 = s := ⟨_, rfl⟩
   rw [hs] at hset hce hks HTK
   simp only at hset hce
   obtain ⟨d0, d1, d2, d3⟩ := hce wr HB.out
   have HCE := qH0 (fun (W : World) (hb : Below w1.heap.size w1 W) => (hce W hb).2.1)
   have hnm : NmAt w1 (.slice p0 q0 r0) s.owner := by
    obtain ⟨_, _, _, e, h, -⟩ := hset
    injection e with e _
    rw [e]; exact h
   have hcs := qbS (.slice p0 q0 r0) (.slice ao qo co) s.owner o _ rfl wr (hnm.below HB.out) (HNO.out.below HBW.out) hks HKO.out
   obtain ⟨t1, ht1⟩ : ∃ b, sameN s.owner o = b := ⟨_, rfl⟩
   rw [ht1] at hcs HTK
   clear hset hce hs hel hb hks hnm ht1
   go_wp2_with fail
   refine hcs.mono ?_
   rintro e w2 ⟨rfl, hb2⟩
   have HB2 := qH0 (qB0 HB.out hb2)
   have HBW2 := qH0 (qB0 HBW.out hb2)
   have HO2 := qH0 (OwnG.below HO.out hb2)
   have e1 := HCE.out w2 HB2.out
   clear hcs hb2 d0 d1 d2 d3 HBW HO
   cases t1
   ·have HZ2 : Hid (zs = ((S.take (k + 1)).filter fun s => sameN s.owner o).map St.ty) := qH0 (by rw [HTK.out, ← HZ.out]; simp)
    go_wp2
    go_roundw
    case measure => simp [intOf]; omega
    case rel => exact ⟨k + 1, q, ga, gc, zs, rfl, by go_num, by omega, qH0 ⟨HQ.out.1, by have := HQ.out.2; omega⟩, HZ2, HO2, HB2⟩
   ·have HZ2 : Hid (zs ++ [s.ty] = ((S.take (k + 1)).filter fun s => sameN s.owner o).map St.ty) := qH0 (by rw [HTK.out, ← HZ.out]; simp)
    have HLN := qH0 (show zs.length ≤ 1048576 by have := HQ.out; omega)
    generalize s.ty = st at *
    go_wp2_with (at_builtin; refine qaN w2 rfl (.tmp 23) (.tmp 29) qbD rfl (fun _ => rfl) w1.heap.size (.slice ga q gc) zs rfl HO2.out [.int .i64 st] [st] rfl 1 1 rfl rfl HB2.out.size (by have := HLN.out; unfold maxLen; simp only [List.length_cons, List.length_nil] at *; omega) (by have := HLN.out; simp only [List.length_cons, List.length_nil] at *; omega) ?_; intro v3 w9 hown3 hg3)
    have HB9 := qH0 (HB2.out.grown hg3 HB2.out.size HO2.out.base_le)
    obtain ⟨a9, m9, c9, e9⟩ : ∃ a m c, v3 = .slice a m c := by obtain ⟨a, c, e⟩ := hown3.shape; exact ⟨_, _, _, e⟩
    have hm9 : m9 = q + 1 := by
     obtain ⟨a, c, e⟩ := hown3.shape
     rw [e9] at e; injection e with _ e _
     rw [e, List.length_append, HQ.out.1]; rfl
    subst hm9
    subst e9
    have HO9 := qH0 hown3
    clear hown3 hg3
    go_roundw
    case measure => simp [intOf]; omega
    case rel => exact ⟨k + 1, q + 1, a9, c9, zs ++ [st], rfl, by go_num, by omega, qH0 ⟨by rw [List.length_append, HQ.out.1]; rfl, by have := HQ.out.2; omega⟩, HZ2, HO9, HB9⟩
  ·obtain rfl : k = n := by omega
   have hz := HZ.out
   rw [List.take_of_length_le (by rw [HN.out]; exact qN0)] at hz
   have HE := qH0 (show zs = res by rw [hz, HTY.out])
   clear hz
   go_wp2
   go_ret
   exact ⟨_, rfl, by rw [← HE.out]; exact HO.out.weaken HB1.out.size, HBW.out⟩
def RNms (w0 W : World) (base : Nat) (v : Value) (ns : List Nm) : Prop := ∃ vs : List SlV, OwnG 22 slEnc W base v vs ∧ vs.length = ns.length ∧ ∀ j (h1 : j < vs.length) (h2 : j < ns.length), NmAt w0 (slEnc vs[j]) ns[j]
theorem RNms.below {w0 W W' : World} {base : Nat} {v : Value} {ns : List Nm} (h : RNms w0 W base v ns) (hb : Below W.heap.size W W') : RNms w0 W' base v ns := by
 obtain ⟨vs, h1, h2, h3⟩ := h
 exact ⟨vs, OwnG.below h1 hb, h2, h3⟩
theorem RNms.snoc {w0 W' : World} {base : Nat} {v' : Value} {vs : List SlV} {ns : List Nm} {x : SlV} {n : Nm} (h2 : vs.length = ns.length) (h3 : ∀ j (h1 : j < vs.length) (h2 : j < ns.length), NmAt w0 (slEnc vs[j]) ns[j]) (hn : NmAt w0 (slEnc x) n) (ho : OwnG 22 slEnc W' base v' (vs ++ [x])) : RNms w0 W' base v' (ns ++ [n]) := by
 refine ⟨vs ++ [x], ho, by simp [h2], fun j a b => ?_⟩
 by_cases hj : j < vs.length
 ·rw [List.getElem_append_left hj, List.getElem_append_left (by omega)]
  exact h3 j hj (by omega)
 ·obtain rfl : j = vs.length := by simp at a; omega
  have e1 : (vs ++ [x])[vs.length]'a = x := by simp
  have e2 : (ns ++ [n])[vs.length]'b = n := by simp [h2]
  rw [e1, e2]
  exact hn
def qkn (w0 w : World) (s : Option St) (e : Ending) (w' : World) : Prop := ∃ cs, e = .returned (.tuple #[.agg cs.toArray, .bool s.isSome]) ∧ (∀ W', FarKeep w.heap.size w' W' → RSetP w0 W' cs (s.getD ⟨[], 0, 0, []⟩)) ∧ Below w.heap.size w w'
theorem qiA (W : World) (B : Nat) (v0 v1 v2 v3 : Value) : (put4s W B v0 v1 v2 v3).heap.size = W.heap.size := by unfold put4s; simp
theorem qiF (w0 W : World) : RSetP w0 W [.slice none 0 0, .int .i64 0, .int .u32 0, .slice none 0 0] ⟨[], 0, 0, []⟩ :=
 ⟨(none, 0, 0), (none, 0, 0), [], rfl, nm_nil w0, SlK.nil W, Dts.nil w0⟩
theorem qkw (v vo : Value) (o : Nm) (t : Int) (cs0 : List (List Value)) (l : List Rc) (w0 w : World) (hA : SlK w v cs0) (hR : Rcs w0 cs0 l) (hb0 : Below w0.heap.size w0 w) (hO : NmAt w vo o) (hko : NmOK o) (hOK : ∀ r ∈ l, RcOK r) (hl : cs0.length ≤ 1000000) :
 Calls Tryz.prog 62 #[v, vo, .int .i64 t] w (qkn w0 w (ofM l o t)) := by
 have hc := fun (W : World) (hb : Below w.heap.size w W) => qeo w0 W v cs0 l (hA.below hb) hR (qB0 hb0 hb) hOK hl
 have hoks : ∀ s ∈ setsM (canonM l), NmOK s.owner := fun s h => (qcg hOK h).1
 have hfd := qkD l o t
 have hsl : (setsM (canonM l)).length ≤ 1000000 := by
  have h1 := qb5 _ (canonM l) (qN0)
  have h2 := qaD l
  have h3 : l.length ≤ 1000000 := by rw [← hR.1]; exact hl
  omega
 obtain ⟨S, hS⟩ : ∃ S, setsM (canonM l) = S := ⟨_, rfl⟩
 rw [hS] at hoks hfd hsl
 have hc2 := hc
 simp only [hS] at hc2
 obtain ⟨res, hres⟩ : ∃ r, ofM l o t = r := ⟨_, rfl⟩
 rw [hres] at hfd ⊢
 have HB00 := qH0 hb0; have HFD := qH0 hfd; have HOKS := qH0 hoks; have HNO := qH0 hO; have HKO := qH0 hko
 have HSL := qH0 hsl; have HCC := qH0 hc2
 obtain ⟨a, c, rfl, -⟩ := id hA
 obtain ⟨ao, co, rfl, -⟩ := nmAt_sl.1 hO
 obtain ⟨qo, hqo⟩ : ∃ k, (List.map strV o).length = k := ⟨_, rfl⟩
 rw [hqo] at HNO ⊢
 obtain ⟨n0, hn0⟩ : ∃ k, cs0.length = k := ⟨_, rfl⟩
 rw [hn0] at HCC ⊢
 clear hA hR hb0 hO hko hOK hl hc hc2 hoks hfd hsl hS hres hqo hn0
 have hA0 := (Below.refl w.heap.size w).alloc (qN0) (.cells #[.slice none 0 0, .int .i64 0, .int .u32 0, .slice none 0 0] 80)
 have hX := knew w (.cells #[.slice none 0 0, .int .i64 0, .int .u32 0, .slice none 0 0] 80)
 have HX := qH0 hX; have HA0 := qH0 hA0
 have hc := HCC.out _ hA0
 clear hA0 hX HCC
 go_enter Tryz.func62, Tryz.ntmps62
 go_wp2_with fail
 refine hc.mono ?_
 rintro e w1 ⟨v1, css, rfl, hcl, hrs, hb1⟩
 have HB1 := qH0 (qB0 HA0.out hb1)
 have HX1 := qH0 ((hb1.block _ (qaa HX.out)).trans HX.out)
 obtain ⟨hs1, he1⟩ := hrs w1 (FarKeep.refl _ _)
 have HRS := qH0 (fun (W' : World) (hf : FarKeep (w.heap.size + 1) w1 W') => (hrs W' (by rw [World.size_alloc]; exact hf)).2)
 obtain ⟨sa, sc, rfl, -⟩ := id hs1
 obtain ⟨n, hn⟩ : ∃ n, css.length = n := ⟨_, rfl⟩
 have HE1 := qH0 he1
 rw [hn] at hs1 ⊢
 have hcl2 : S.length = n := by rw [← hn]; exact hcl.symm
 have HR1 := qH0 hs1; have HN := qH0 hn; have HNS := qH0 hcl2
 have HL4 := qH0 (show ∀ cs ∈ css, cs.length = 4 from fun cs hc => by
  obtain ⟨i, hi, rfl⟩ := List.mem_iff_getElem.1 hc
  obtain ⟨x0, x3, ds, e, _⟩ := he1 i hi (by omega)
  rw [e]; rfl)
 have hnx : n ≤ 1000000 := by have := HSL.out; omega
 clear hc hrs hb1 hs1 he1 HA0 HX hn hcl hcl2
 go_wp2
 go_loopw [9] (fun vi wr => ∃ k : Nat, vi = .int .i64 k ∧ k ≤ n ∧ Hid (∀ j (hj : j < S.length), j < k → (decide (S[j].ty = t) && sameN S[j].owner o) = false) ∧ Hid (Below w1.heap.size w1 wr)) (fun vi _ => n - (intOf vi).toNat)
 case atStart => exact ⟨0, rfl, Nat.zero_le _, qH0 (fun j hj h => absurd h (Nat.not_lt_zero _)), qH0 (qL0)⟩
 case round =>
  obtain ⟨k, rfl, hk, HNO2, HB⟩ := hrel
  have HBW := qH0 (qB0 HB1.out HB.out)
  by_cases hlt : k < n
  ·have hltz : (k : Int) < (n : Int) := by omega
   have hk0 : k < css.length := by have := HN.out; omega
   have hk1 : k < S.length := by have := HNS.out; omega
   obtain ⟨b, off, rfl, hb, hel⟩ := HR1.out.elem4 HL4.out (by omega)
   obtain ⟨⟨p0, q0, r0⟩, ⟨p3, q3, r3⟩, ds, e0, hn1, -⟩ := HE1.out k hk0 hk1
   unfold slW at e0 hn1
   simp only at e0 hn1
   have hce := fun W hb => hel k hk0 _ _ _ _ e0 W hb
   have hks := HOKS.out _ (List.getElem_mem hk1)
   have hst := qib (p := fun s : St => decide (s.ty = t) && sameN s.owner o) hk1 HNO2.out
   rw [← HFD.out] at hst
   have HRF := qH0 (fun (W' : World) (hf : FarKeep (w.heap.size + 1) w1 W') => (show RSetP w0 W' [.slice p0 q0 r0, .int .i64 (S[k]'hk1).ty, .int .u32 ((S[k]'hk1).ttl : Int), .slice p3 q3 r3] (S[k]'hk1) by
    have h := HRS.out W' hf k hk0 hk1
    rw [e0] at h; exact h))
   have HSK := qH0 (show ∀ (h : k < S.length) , (S[k]'h) = (S[k]'hk1) from fun _ => rfl)
   obtain ⟨s, hs⟩ : ∃ s, S[k]'hk1 = s := ⟨_, rfl⟩
   rw [hs] at hce hks hst hn1 HRF HSK
   obtain ⟨d0, d1, d2, d3⟩ := hce wr HB.out
   have HCE := qH0 hce
   have HST := qH0 hst
   have hcs := qbS (.slice p0 q0 r0) (.slice ao qo co) s.owner o _ rfl wr (hn1.below (qB0 HB00.out HBW.out)) (HNO.out.below HBW.out) hks HKO.out
   obtain ⟨t1, ht1⟩ : ∃ b, sameN s.owner o = b := ⟨_, rfl⟩
   rw [ht1] at hcs
   have HT1 := qH0 ht1
   clear hce hst hs hn1 ht1 hks hk1 hk0 e0 hel hb
   by_cases hty : s.ty = t
   ·have htyb : (s.ty == t) = true := by simpa using hty
    have HTY := qH0 hty
    clear hty
    go_wp2_with fail
    refine hcs.mono ?_
    rintro e w2 ⟨rfl, hb2⟩
    have HB2 := qH0 (qB0 HB.out hb2)
    obtain ⟨c0, c1, c2, c3⟩ := HCE.out w2 HB2.out
    clear hcs hb2 d0 d1 d2 d3 htyb
    cases t1
    ·have HNX : Hid (∀ j (hj : j < S.length), j < k + 1 → (decide (S[j].ty = t) && sameN S[j].owner o) = false) := qH0 (fun j hj h => by
      by_cases e : j < k
      ·exact HNO2.out j hj e
      ·obtain rfl : j = k := by omega
       rw [HSK.out, HT1.out, Bool.and_false])
     clear c0 c1 c2 c3
     go_wp2
     go_roundw
     case measure => simp [intOf]; omega
     case rel => exact ⟨k + 1, by go_num, by omega, HNX, HB2⟩
    ·have HRE : Hid (res = some s) := qH0 (by rw [HST.out, if_pos (by rw [HT1.out, decide_eq_true HTY.out]; rfl)])
     have hx2 := (HB2.out.block _ (qaa HX1.out)).trans HX1.out
     have s0 := kcell hx2 0 _ rfl; have s1 := kcell hx2 1 _ rfl; have s2 := kcell hx2 2 _ rfl; have s3 := kcell hx2 3 _ rfl
     have u0 := qag hx2 0; have u1 := qag hx2 1; have u2 := qag hx2 2; have u3 := qag hx2 3
     have HX2 := qH0 hx2
     clear hx2
     go_wp2
     refine bodyPost_ret (qdJ rfl _ (put4s w2 w.heap.size (.slice p0 q0 r0) (.int .i64 s.ty) (.int .u32 (s.ttl : Int)) (.slice p3 q3 r3)) rfl rfl (qfO HX2.out _ _ _ _)) rfl ?_
     have hf := qja (n := w.heap.size + 1) w2 (Nat.lt_succ_self _) (.slice p0 q0 r0) (.int .i64 s.ty) (.int .u32 (s.ttl : Int)) (.slice p3 q3 r3)
     have hbw := qed (qB0 HB1.out HB2.out) (Nat.le_refl w.heap.size) (.slice p0 q0 r0) (.int .i64 s.ty) (.int .u32 (s.ttl : Int)) (.slice p3 q3 r3)
     exact ⟨[.slice p0 q0 r0, .int .i64 s.ty, .int .u32 (s.ttl : Int), .slice p3 q3 r3], by rw [HRE.out]; rfl, by rw [HRE.out]; exact fun W' hW => HRF.out _ (((FarKeep.of_below HB2.out).trans HB2.out.size hf).trans (Nat.le_trans HB2.out.size (Nat.le_of_eq (qiA _ _ _ _ _ _).symm)) (hW.mono (Nat.le_succ _))), hbw⟩
   ·have htyb : (s.ty == t) = false := by simpa using hty
    have HNX : Hid (∀ j (hj : j < S.length), j < k + 1 → (decide (S[j].ty = t) && sameN S[j].owner o) = false) := qH0 (fun j hj h => by
     by_cases e : j < k
     ·exact HNO2.out j hj e
     ·obtain rfl : j = k := by omega
      rw [HSK.out, decide_eq_false hty, Bool.false_and])
    clear hcs hty
    go_wp2
    go_roundw
    case measure => simp [intOf]; omega
    case rel => exact ⟨k + 1, by go_num, by omega, HNX, HB⟩
  ·obtain rfl : k = n := by omega
   have HRE : Hid (res = none) := qH0 (by
    rw [HFD.out, List.find?_eq_none]
    intro x hx
    obtain ⟨j, hj, rfl⟩ := List.mem_iff_getElem.1 hx
    rw [HNO2.out j hj (by have := HNS.out; omega)]; simp)
   have hx2 := (HB.out.block _ (qaa HX1.out)).trans HX1.out
   have s0 := kcell hx2 0 _ rfl; have s1 := kcell hx2 1 _ rfl; have s2 := kcell hx2 2 _ rfl; have s3 := kcell hx2 3 _ rfl
   have u0 := qag hx2 0; have u1 := qag hx2 1; have u2 := qag hx2 2; have u3 := qag hx2 3
   have HX2 := qH0 hx2
   clear hx2
   go_wp2
   refine bodyPost_ret (qdJ rfl _ (put4s wr w.heap.size (.slice none 0 0) (.int .i64 0) (.int .u32 0) (.slice none 0 0)) rfl rfl (qfO HX2.out _ _ _ _)) rfl ?_
   exact ⟨[.slice none 0 0, .int .i64 0, .int .u32 0, .slice none 0 0], by rw [HRE.out]; rfl, by rw [HRE.out]; exact fun W' _ => qiF _ W', qed HBW.out (Nat.le_refl w.heap.size) _ _ _ _⟩
def qg6 (w0 w : World) (ds : List Dat) (e : Ending) (w' : World) : Prop := ∃ v, e = .returned v ∧ (∀ W', FarKeep w.heap.size w' W' → ∃ css, SlK W' v css ∧ Dts w0 css ds) ∧ Below w.heap.size w w'
theorem qiI {w0 w : World} {za v1 : Option Addr} {zn zc m c : Nat} {o n : Nm} {rs : List Rc} {vn : Value} (t : Int) (h : ZonS w0 za zn zc v1 m c o rs) (hb0 : Below w0.heap.size w0 w) (hO : NmAt w vn n) (hko : NmOK n) (hm : m ≤ 1000000) :
 Calls Tryz.prog 27 #[.agg #[.slice za zn zc, .slice v1 m c], vn, .int .i64 t] w (qg6 w0 w (dataM rs n t)) := by
 obtain ⟨-, -, ⟨css, hA, hR⟩, hOK, hl⟩ := h
 have hcl : css.length = m := by
  obtain ⟨_, _, e, -⟩ := id hA
  injection e with _ e _
  exact e.symm
 have hc := fun (W : World) (hb : Below w.heap.size w W) => qkw (.slice v1 m c) vn n t css rs w0 W (hA.below (qB0 hb0 hb)) hR (qB0 hb0 hb) (hO.below hb) hko hOK (by omega)
 obtain ⟨an, cn, rfl, -⟩ := nmAt_sl.1 hO
 obtain ⟨qn, hqn⟩ : ∃ k, (List.map strV n).length = k := ⟨_, rfl⟩
 rw [hqn] at hc ⊢
 have hD : dataM rs n t = ((ofM rs n t).getD ⟨[], 0, 0, []⟩).data := rfl
 obtain ⟨D, hDD⟩ : ∃ D, dataM rs n t = D := ⟨_, rfl⟩
 rw [hDD] at hD ⊢
 have HD := qH0 hD
 have hB0 := (Below.refl w.heap.size w).alloc (qN0) (.cells #[.slice za zn zc, .slice v1 m c] 37)
 have X0 := qH0 (knew w (.cells #[.slice za zn zc, .slice v1 m c] 37))
 have hcc := hc _ hB0
 have HB0 := qH0 hB0
 have y1 := kcell X0.out 1 _ rfl
 clear hA hR hOK hO hko hc hB0 hqn hD hDD hcl hb0
 obtain ⟨res, hres⟩ : ∃ r, ofM rs n t = r := ⟨_, rfl⟩
 rw [hres] at hcc HD
 clear hres
 go_enter Tryz.func27, Tryz.ntmps27
 go_wp2_with fail
 refine hcc.mono ?_
 rintro e w1 ⟨cs, rfl, hRS, hb1⟩
 obtain ⟨⟨p0, q0, r0⟩, ⟨p3, q3, r3⟩, ds, rfl, h0, h1, h2⟩ := hRS w1 (FarKeep.refl _ _)
 unfold slW at h1 hRS ⊢
 simp only at h1 hRS ⊢
 have HRF := qH0 (fun W' (hW : FarKeep (w.heap.size + 1) w1 W') => (show ∃ css, SlK W' (.slice p3 q3 r3) css ∧ Dts w0 css (res.getD ⟨[], 0, 0, []⟩).data from by
  obtain ⟨⟨i0, j0, k0⟩, ⟨i3, j3, k3⟩, ds', e, k0, k1, k2⟩ := hRS W' (by rw [World.size_alloc]; exact hW)
  unfold slW at e k1
  simp only [List.cons.injEq, Value.slice.injEq, and_true, true_and] at e
  obtain ⟨-, rfl, rfl, rfl⟩ := e
  exact ⟨ds', k1, k2⟩))
 clear hRS
 have hA1 := (Below.refl w1.heap.size w1).alloc (qN0) (.cells #[.slice p0 q0 r0, .int .i64 (res.getD ⟨[], 0, 0, []⟩).ty, .int .u32 ((res.getD ⟨[], 0, 0, []⟩).ttl : Int), .slice p3 q3 r3] 80)
 have z3 := kcell (knew w1 (.cells #[.slice p0 q0 r0, .int .i64 (res.getD ⟨[], 0, 0, []⟩).ty, .int .u32 ((res.getD ⟨[], 0, 0, []⟩).ttl : Int), .slice p3 q3 r3] 80)) 3 _ rfl
 have HFA := qH0 (FarKeep.of_below (n := w.heap.size + 1) hA1); have HSA := qH0 hA1.size
 have HB1 := qH0 (HB0.out.trans ((qB0 hb1 hA1).mono HB0.out.size))
 clear h0 h1 h2 hb1 hA1 hcc y1
 generalize (res.getD ⟨[], 0, 0, []⟩).ty = ty at *
 generalize ((res.getD ⟨[], 0, 0, []⟩).ttl : Int) = tl at *
 go_wp2
 go_ret
 exact ⟨_, rfl, fun W' hW => by rw [HD.out]; exact HRF.out _ (HFA.out.trans HSA.out (hW.mono (Nat.le_succ _))), HB1.out⟩
end Go.Proofs.YtnpnfajgphpabaaGreat
