/-
  (*Tree[int]).all, Names.
-/
import Derived.Test.YtbnkecmhmcligaaMQ07
import Derived.Test.YtbnkecmhmcligaaMQ32
namespace Go.Proofs.Ytbnkecmhmcligaa
set_option linter.unusedVariables false
set_option linter.unusedSimpArgs false
set_option maxRecDepth 20000
open Go.RowKit Go.Shelf Go.Maps Go.WideMaps
set_option maxRecDepth 20000
theorem elemNs : ElemT 28 22 24 := ⟨Try.underlying22, _, _, rfl, rfl, rfl, rfl, rfl⟩
def elH (x : El) : Value := hdV x.1
def NamI (w : World) (pre : List El) (W : World) : Prop := (∃ v, Boxed W w.heap.size 22 v ∧ OwnG 28 elH W w.heap.size v pre) ∧ (∀ x ∈ pre, OwnNm W w.heap.size x) ∧ Below w.heap.size w W
def NamesPost (s : TreS) (w : World) (e : Ending) (w' : World) : Prop := ∃ v xs, e = .returned v ∧ xs.map (·.2) = srtT s.ks ∧ OwnG 28 elH w' w.heap.size v xs ∧ (∀ x ∈ xs, OwnNm w' w.heap.size x) ∧ Below w.heap.size w w'
theorem namI_own {Y : Obj → Prop} {w : World} {B : Nat} (hB : w.heap.size ≤ B) (hY : ∀ o, Y o → ∀ (cs : Array Value) (t : TypeId), o = .cells cs t → t ≠ 28 ∧ t ≠ 22 ∧ t ≠ 9) : OwnY Y B (NamI w) := by
  rintro pre W W' row ⟨⟨v, h1, h2⟩, h3, h4⟩ hg hr
  have keep : ∀ (j : Nat) (cs : Array Value) (t : TypeId), (t = 28 ∨ t = 22 ∨ t = 9) → W.heap[j]? = some (Obj.cells cs t) → W'.heap[j]? = some (Obj.cells cs t) := fun j cs t ht hj =>
    (hg.block j (kblock_lt hj) (fun e => by
      obtain ⟨_, o, ho, hy⟩ := hr j e.symm
      rw [hj] at ho; cases ho
      obtain ⟨k1, k2, k3⟩ := hY _ hy cs t rfl
      rcases ht with h | h | h
      · exact k1 h
      · exact k2 h
      · exact k3 h)).trans hj
  exact ⟨⟨v, keep _ _ _ (.inr (.inl rfl)) h1, OwnG.same h2 (fun j cs hj => keep j cs _ (.inl rfl) hj)⟩, fun x hx => OwnG.same (h3 x hx) (fun j cs hj => keep j cs _ (.inr (.inr rfl)) hj), h4.grown hg h4.size (fun k e => by have := (hr k e).1; omega)⟩
theorem notAl_cells {cs : Array Value} {t : TypeId} (h : t = 28 ∨ t = 22) : ¬ AlObj (.cells cs t) := by
  rintro (⟨es, c, e⟩ | ⟨cs', t', e, h1, h2⟩)
  · cases e
  · injection e with _ e _; subst e
    exact h.elim h1 h2
theorem NamI.push {w W w1 : World} {pre : List El} {x : El} {v : Value} {a' : Option Addr} {n' c' : Nat} (h1 : Boxed W w.heap.size 22 v) (h2 : OwnG 28 elH W w.heap.size v pre) (h3 : ∀ x ∈ pre, OwnNm W w.heap.size x) (h4 : Below w.heap.size w W) (hx : OwnNm W w.heap.size x)
    (ho : OwnG 28 elH w1 w.heap.size (.slice a' n' c') (pre ++ [x])) (hg : W.grownBy w1 v.ownBlock) (B : Nat) :
    Boxed w1 w.heap.size 22 v ∧ KeepsT B W (w1.setCell ⟨w.heap.size, 0, none⟩ (.slice a' n' c')) ∧ KeepAl W (w1.setCell ⟨w.heap.size, 0, none⟩ (.slice a' n' c')) ∧ NamI w (pre ++ [x]) (w1.setCell ⟨w.heap.size, 0, none⟩ (.slice a' n' c')) := by
  have hb1 : Boxed w1 w.heap.size 22 v := h1.kept hg (h1.not_row (by decide) h2)
  have blk : ∀ k, v.ownBlock = some k → ∃ cs : Array Value, W.heap[k]? = some (Obj.cells cs 28) := fun k e => by
    have h := h2
    unfold OwnG World.ownsRow at h
    rcases h.2 with ⟨rfl, _⟩ | ⟨g, cap, cur, rfl, _, hgb, _⟩
    · cases e
    · simp only [Value.ownBlock] at e
      cases e
      exact ⟨_, hgb⟩
  have keepS : ∀ (j : Nat) (cs : Array Value), W.heap[j]? = some (Obj.cells cs 9) → (w1.setCell ⟨w.heap.size, 0, none⟩ (.slice a' n' c')).heap[j]? = some (Obj.cells cs 9) := fun j cs hj => by
    refine (Below.heap_setCell _ ⟨w.heap.size, 0, none⟩ _ _ (fun e => ?_)).trans ((hg.block j (kblock_lt hj) (fun e => ?_)).trans hj)
    · have e' : j = w.heap.size := e
      subst e'
      rw [show W.heap[w.heap.size]? = _ from h1] at hj
      injection hj with hj; injection hj with _ e _; revert e; decide
    · obtain ⟨cs', hc⟩ := blk j e.symm
      rw [hj] at hc
      injection hc with hc; injection hc with _ e _; revert e; decide
  refine ⟨hb1, (KeepsT.grown0 hg (fun r e => by obtain ⟨cs, h⟩ := blk r e; exact ⟨cs, _, h⟩)).trans (KeepsOthers.t (KeepsOthers.setCell _ _ _) _), (KeepAl.grown hg (fun r e => by obtain ⟨cs, h⟩ := blk r e; exact ⟨_, h, notAl_cells (.inl rfl)⟩)).trans (KeepAl.grown (grownBy_setCell' w1 w.heap.size _) (fun r e => by cases e; exact ⟨_, hb1, notAl_cells (.inr rfl)⟩)), ⟨_, hb1.set _, World.ownsRow.kept ho (grownBy_setCell' w1 w.heap.size _) (.inr (hb1.not_row (by decide) ho).symm)⟩, fun y hy => ?_, (h4.grown hg h4.size h2.base_le).setCell (p := ⟨w.heap.size, 0, none⟩) (Nat.le_refl _) _⟩
  rcases List.mem_append.1 hy with hy | hy
  · exact OwnG.same (h3 y hy) keepS
  · obtain rfl := List.mem_singleton.1 hy
    exact OwnG.same hx keepS
theorem all_stops_i (n b1 : Nat) (s : TreS) (more : Nat) (N0 : Nat) (w : World) (hN : N0 ≤ w.heap.size) (hT : TrM 62 60 (.int .i64 0) w s more) (hb : Boxed w b1 35 (.pointer (some ⟨s.be [], 0, none⟩))) (hsz : s.ks.length ≤ 1048576) (hdeep : ∀ p ∈ s.ks, p.length ≤ 1048576 ∧ ∀ l ∈ p, l.length ≤ 1048576) :
    SeqStopsU YAll_i Fence.wide n Try.prog 41 #[.pointer (some ⟨b1, 0, none⟩)] elV (fun x W => OwnNm W N0 x) KeepAl (fun xs => xs.map (·.2) = srtT s.ks) (fun pre => pre.map (·.2) <+: srtT s.ks) s.ks.length w := fun l J Jx W hW hJ hJx hY h0 =>
  callsIn_wide.2 (all1_in_i l b1 s more W J Jx hJ hJx (fun pre x W1 hj hd hl => yieldAt_wide _ (hY pre x W1 hj (OwnG.weaken hd (Nat.le_trans hN hW.size)) hl)) (hT.below hW) ((hW.block b1 hb.lt).trans hb) hsz hdeep h0)
section
attribute [local go_sem] Oper.semAt_some
theorem tree_all_i (B : Nat) (w : World) :
    Calls Try.prog 30 #[.pointer (some ⟨B, 0, none⟩)] w fun e w' => e = .returned (.func (.func 41) #[] #[.pointer (some ⟨w.heap.size, 0, none⟩)]) ∧ w' = w.alloc (.cells #[.pointer (some ⟨B, 0, none⟩)] 35) := by
  go_enter Try.func30, Try.ntmps30
  go_wp2
  go_ret
  exact ⟨rfl, rfl⟩
set_option maxRecDepth 100000 in
set_option maxHeartbeats 4000000 in
theorem tree_Names_i (s : TreS) (more : Nat) (w : World) (hT : TrM 62 60 (.int .i64 0) w s more) (hsz : s.ks.length ≤ 1048576) (hdeep : ∀ p ∈ s.ks, p.length ≤ 1048576 ∧ ∀ l ∈ p, l.length ≤ 1048576) :
    Calls Try.prog 19 #[.pointer (some ⟨s.be [], 0, none⟩)] w (NamesPost s w) := by
  have HT := Lib.hid hT; have HSZ := Lib.hid hsz; have HDP := Lib.hid hdeep
  obtain ⟨B, hB⟩ : ∃ B, s.be [] = B := ⟨_, rfl⟩
  rw [hB]
  have HB := Lib.hid hB
  clear hT hsz hdeep hB
  obtain ⟨W0, hW0⟩ : ∃ W0, w.alloc (.cells #[.slice none 0 0] 22) = W0 := ⟨_, rfl⟩
  obtain ⟨W1, hW1⟩ : ∃ W1, W0.alloc (.cells #[.pointer (some ⟨B, 0, none⟩)] 35) = W1 := ⟨_, rfl⟩
  have hz0 : W0.heap.size = w.heap.size + 1 := by rw [← hW0]; simp
  have hb0 : Below w.heap.size w W1 := by rw [← hW1, ← hW0]; exact ((Below.refl w.heap.size w).alloc (Nat.le_refl _) _).alloc (by simp) _
  have x0 : Boxed W1 w.heap.size 22 (.slice none 0 0) := by rw [← hW1, ← hW0]; exact (Boxed.new w _ _).alloc _
  have x1 : Boxed W1 (w.heap.size + 1) 35 (.pointer (some ⟨s.be [], 0, none⟩)) := by
    have h := Boxed.new W0 35 (.pointer (some ⟨B, 0, none⟩))
    rw [hz0] at h
    rw [← hW1, HB.out]; exact h
  have hz1 : W1.heap.size = w.heap.size + 2 := by rw [← hW1]; simp [hz0]
  have hI0 : NamI w [] W1 := ⟨⟨_, x0, OwnG.nil _ _⟩, fun x h => (by cases h), hb0⟩
  have HW0 := Lib.hid hW0; have HW1 := Lib.hid hW1; have HZ1 := Lib.hid hz1; have HZ0 := Lib.hid hz0
  clear hW0 hW1 hz1 hz0 x0
  refine (callsIn_wide (n := 9)).1 ?_
  refine callsIn_of_wp_marks Try.func19 rfl trivial ?_ rfl
  simp only [Try.ntmps19, List.size_toArray, List.length_cons, List.length_nil, Nat.reduceAdd, Nat.reduceSub, Array.replicate_succ, Array.replicate_zero, List.push_toArray, List.append_toArray, List.nil_append, List.cons_append]
  refine wpIn_wide.2 ?_
  go_wp2_with fail
  rw [HW0.out]
  clear HW0
  refine (tree_all_i _ _).mono ?_
  rintro e w2 ⟨rfl, rfl⟩
  go_wp2
  refine (wpIn_wide (n := 9)).1 ?_
  rw [HW1.out, HZ0.out]
  clear HW1
  refine wpIn_rangeFunc_U (Y := YAll_i) (fun o h => .inl h) rfl (by omega) (gf := 41) (lb := #[.pointer (some ⟨w.heap.size + 1, 0, none⟩)]) rfl trivial (enters_of Try.func41 (by kernel_rfl) rfl)
    (all_stops_i _ (w.heap.size + 1) s more w.heap.size W1 (by rw [HZ1.out]; omega) (HT.out.below hb0) x1 HSZ.out HDP.out) (fun x W l o o' _ hl hp hd => OwnG.putObj hd o' hl hp.1) keepAl_t keepAl_b (Below.refl _ _) (fun _ => rfl)
    (NamI w) (fun _ _ _ => False)
    (namI_own (by rw [HZ1.out]; omega) (fun o ho cs t e => by
      subst e
      rcases ho with ho | ⟨cs', t', e, ht⟩
      · cases ho.1
      · injection e with _ e _; subst e
        rcases ht with rfl | rfl
        · exact ⟨by decide, by decide, by decide⟩
        · exact ⟨by decide, by decide, by decide⟩))
    (fun _ _ _ _ _ h _ _ => h.elim)
    hI0
    (fun x => { tmps := #[.pointer (some ⟨B, 0, none⟩), undef, .slice none 0 0, .pointer (some ⟨w.heap.size, 0, none⟩), hdV x.1, .pointer (some ⟨B, 0, none⟩), .func (.func 41) #[] #[.pointer (some ⟨w.heap.size + 1, 0, none⟩)], hdV x.1, undef, undef, undef, undef, undef], defers := [] }) ?assign ?body ?done ?stop
  case assign =>
    intro l x W K hK
    unfold elV
    gi_wp2
    exact hK
  case body =>
    rintro l' pre x W hl' ⟨rec, hrec⟩ ⟨⟨v, h1, h2⟩, h3, h4⟩ hd hlt
    obtain ⟨va, vc, rfl⟩ := h2.shape
    obtain ⟨vn, hvn⟩ : ∃ n, pre.length = n := ⟨_, rfl⟩
    rw [hvn] at h1 h2
    have hpl : pre.length ≤ 1048576 := by have := HSZ.out; omega
    have c0 := h1.cell
    have ca := (h1.alloc (.cells #[hdV x.1] 28)).cell
    have hP := Lib.hid (fun (a' : Option Addr) (n' c' : Nat) (w1 : World) (ho : OwnG 28 elH w1 w.heap.size (.slice a' n' c') (pre ++ [x])) (hg : W.grownBy w1 (Value.slice va vn vc).ownBlock) => NamI.push h1 h2 h3 h4 hd ho hg W1.heap.size)
    have H2 := Lib.hid h2; have HPL := Lib.hid hpl; have HSW := Lib.hid (show w.heap.size ≤ W.heap.size from h4.size)
    obtain ⟨xv, hxv⟩ : ∃ v, hdV x.1 = v := ⟨_, rfl⟩
    have hcel : [xv] = [x].map elH := by rw [← hxv]; rfl
    have HCE := Lib.hid hcel
    rw [hxv] at ca ⊢
    obtain ⟨⟨xa, xn, xc⟩, xp⟩ := x
    simp only [hdV] at hxv
    subst hxv
    clear h1 h2 h3 h4 hd hrec hlt hpl hvn hcel
    gi_wp2_with (gi_at_builtin; refine wplIn_append_g W rfl (.tmp 8) (.tmp 10) elemNs rfl (fun _ => rfl) w.heap.size _ pre rfl H2.out _ [((xa, xn, xc), xp)] HCE.out 1 1 rfl rfl HSW.out (by have := HPL.out; unfold maxLen; simp; omega) (by have := HPL.out; simp; omega) ?_; intro v' w1 hown' hg'; obtain ⟨a', n', c', rfl⟩ : ∃ a n c, v' = .slice a n c := (by obtain ⟨a, c, e⟩ := hown'.shape; exact ⟨_, _, _, e⟩); obtain ⟨hv1, k1, k2, k3⟩ := hP.out _ _ _ _ hown' hg'; have hc1 := hv1.cell; have hf1 := hv1.frozen; have K1 := Lib.hid k1; have K2 := Lib.hid k2; have K3 := Lib.hid k3; clear hown' hg' hv1 k1 k2 k3)
    exact ⟨K1.out, K2.out, K3.out⟩
  case done =>
    rintro D xs W hD hxs ⟨⟨v, h1, h2⟩, h3, h4⟩ hKD
    have c0 := h1.cell
    obtain ⟨va, vc, rfl⟩ := h2.shape
    obtain ⟨vn, hvn⟩ : ∃ n, xs.length = n := ⟨_, rfl⟩
    rw [hvn] at h1 h2 c0
    have HF : Hid (NamesPost s w (.returned (.slice va vn vc)) (W.putObj D (.deferred none))) := Lib.hid ⟨_, xs, rfl, hxs, OwnG.putObj h2 _ hKD rfl, fun x hx => OwnG.putObj (h3 x hx) _ hKD rfl, below_putO h4 (by rw [HZ1.out] at hD; omega) (Nat.le_refl _)⟩
    have HKD := Lib.hid hKD
    clear h1 h2 h3 h4 hKD hxs hvn
    gi_wp2
    go_wp2
    refine ⟨by simp, .inl ⟨_, _, rfl, run_takeDeferred HKD.out, ?_⟩⟩
    refine ⟨_, results_tmp rfl _ _ _, ?_⟩
    exact HF.out
  case stop =>
    rintro D c2 pre W hD hp h _
    exact h.elim
end
end Go.Proofs.Ytbnkecmhmcligaa

/-
  law11.known.
-/
namespace Go.Proofs.Ytbnkecmhmcligaa
set_option linter.unusedVariables false
set_option linter.unusedSimpArgs false
set_option maxRecDepth 20000
open Go.RowKit Go.Shelf Go.Maps Go.WideMaps
set_option maxRecDepth 20000
theorem kidsOf_uniq {ks : List Nm} {p : Nm} {a b : List (List UInt8)} (ha : KidsOf ks p a) (hb : KidsOf ks p b) : a = b := by
  have h : a.map (fun l => [l]) = b.map (fun l => [l]) := by
    refine rising_uniq ?_ ?_ (fun x => ?_)
    · refine List.pairwise_map.2 (ha.rise.imp fun {x y} h => ?_)
      have := cmpR_fork [] x y [] [] (by omega)
      simpa [h] using this
    · refine List.pairwise_map.2 (hb.rise.imp fun {x y} h => ?_)
      have := cmpR_fork [] x y [] [] (by omega)
      simpa [h] using this
    · rw [List.mem_map, List.mem_map]
      exact ⟨fun ⟨l, h1, h2⟩ => ⟨l, (hb.mem l).2 ((ha.mem l).1 h1), h2⟩, fun ⟨l, h1, h2⟩ => ⟨l, (ha.mem l).2 ((hb.mem l).1 h1), h2⟩⟩
  have inj : ∀ (x y : List UInt8), [x] = [y] → x = y := fun x y h => by simpa using h
  exact (List.map_inj_right inj).1 h
def kTree : List Nm := [[], [[98]], [[98], [97]]]
theorem kTree_kids : KidsOf kTree [] [[98]] := ⟨fun l => by simp [kTree], by simp⟩
theorem kTree_deep : DeepAt kTree [[98], [120]] 1 := ⟨by decide, by decide, fun k hk h => by
  have : k = 0 ∨ k = 1 ∨ k = 2 := by simp at hk; omega
  rcases this with rfl | rfl | rfl
  · omega
  · omega
  · revert h; decide⟩
theorem ok_of {xs : Nm} (h : fewN xs = true) : NmOK xs := fewN_ok h
section
attribute [local go_sem] Oper.semAt_some
set_option maxRecDepth 100000 in
set_option maxHeartbeats 16000000 in
theorem law11_known (w : World) : Calls Try.prog 4 #[] w fun e w' => e = .returned (.bool true) ∧ Below w.heap.size w w' := by
  go_enter Try.func4, Try.ntmps4
  go_wp2_with fail
  refine (tree_New_i w).mono ?_
  rintro e w1 ⟨s0, rfl, T0, K0, V0, F0, b1⟩
  obtain ⟨B, hB⟩ : ∃ B, s0.be [] = B := ⟨_, rfl⟩
  have hP := tree_Put_i s0 (.slice (some ⟨w1.heap.size, 0, none⟩) 2 2) (.int .i64 7) [[65], [98]] [[97], [98]] (by decide) (w1.alloc (.cells #[.string ⟨#[65]⟩, .string ⟨#[98]⟩] 9)) (T0.below ((Below.refl _ w1).alloc (Nat.le_refl _) _)) (nm_lit w1 [[65], [98]] [.string ⟨#[65]⟩, .string ⟨#[98]⟩] 2 _ rfl rfl (by decide) rfl) (ok_of (by decide)) ⟨7, rfl⟩ (by rw [K0]; decide)
  rw [hB] at hP ⊢
  have HB := Lib.hid hB; have HK0 := Lib.hid K0; have HV0 := Lib.hid V0; have HF0 := Lib.hid F0; have HB1 := Lib.hid b1
  clear T0 K0 V0 F0 b1 hB
  go_wp2_with fail
  refine hP.mono ?_
  rintro e w2 ⟨⟨x, rfl⟩, s, T, K, V, B2, F, C⟩
  have hK : s.ks = kTree := by rw [K, HK0.out]; decide
  have hV : ∀ q, s.vl q = if q = [[98], [97]] then some (.int .i64 7) else none := fun q => by rw [V, HV0.out]; rfl
  have hb2 : Below w.heap.size w w2 := (HB1.out.alloc HB1.out.size _).trans (C.below (by have := HB1.out.size; simp; omega) HF0.out)
  have HG := Lib.hid (fun (W : World) (hb : Below w2.heap.size w2 W) (v : Value) (n : Nm) (r : Option Value) (hr : s.vl (wayN n) = r) (hv : ∀ v, r = some v → ∃ i, v = .int .i64 i) (hA : NmAt W v n) (hk : NmOK n) => (by
    have h := tree_Get_i s (s.ks.length - 1) v n W (T.below hb) hA hk (by rw [hr]; exact hv)
    rw [B2, HB.out, hr] at h; exact h : Calls Try.prog 14 #[.pointer (some ⟨B, 0, none⟩), v] W (GetPost r (.int .i64 0) W)))
  have HH := Lib.hid (fun (W : World) (hb : Below w2.heap.size w2 W) (v : Value) (n : Nm) (r : Bool) (hr : decide (wayN n ∈ kTree) = r) (hA : NmAt W v n) (hk : NmOK n) => (by
    have h := tree_Has_i s (s.ks.length - 1) v n W (T.below hb) hA hk
    rw [B2, HB.out, hK, hr] at h; exact h : Calls Try.prog 16 #[.pointer (some ⟨B, 0, none⟩), v] W (fun e w' => e = .returned (.bool r) ∧ Below W.heap.size W w')))
  have HL := Lib.hid (fun (W : World) (hb : Below w2.heap.size w2 W) => (by
    have h := tree_Len_i s W (T.below hb) (by rw [hK]; decide)
    rw [B2, HB.out, hK] at h; exact h : Calls Try.prog 17 #[.pointer (some ⟨B, 0, none⟩)] W (fun e w' => e = .returned (.int .i64 3) ∧ w' = W)))
  have HD := Lib.hid (fun (W : World) (hb : Below w2.heap.size w2 W) (v : Value) (hA : NmAt W v [[120], [98]]) => (by
    have h := tree_Deepest_i s (s.ks.length - 1) v [[120], [98]] W (T.below hb) hA (ok_of (by decide))
    rw [B2, HB.out] at h
    refine h.mono ?_
    rintro e w' ⟨d, v', hd, rfl, ho, hb'⟩
    rw [hK] at hd
    obtain rfl : d = 1 := hd.uniq kTree_deep
    obtain ⟨a, c, rfl⟩ := ho.shape
    exact ⟨a, c, rfl, hb'⟩ : Calls Try.prog 18 #[.pointer (some ⟨B, 0, none⟩), v] W (fun e w' => ∃ a c, e = .returned (.slice a 1 c) ∧ Below W.heap.size W w')))
  have HKI := Lib.hid (fun (W : World) (hb : Below w2.heap.size w2 W) => (by
    have h := tree_Kids_i s (s.ks.length - 1) (.slice none 0 0) [] W (T.below hb) (nm_nil W) (ok_of (by decide)) (by rw [hK]; decide)
    rw [B2, HB.out] at h
    refine h.mono ?_
    rintro e w' (⟨_, v, ss, rfl, hs, _, ho, hb'⟩ | ⟨hn, _⟩)
    · rw [hK] at hs
      obtain rfl := kidsOf_uniq hs kTree_kids
      obtain ⟨a, c, rfl⟩ := ho.shape
      exact ⟨a, c, rfl, ho, hb'⟩
    · rw [hK] at hn; exact absurd (by decide) hn : Calls Try.prog 15 #[.pointer (some ⟨B, 0, none⟩), .slice none 0 0] W (fun e w' => ∃ a c, e = .returned (.slice a 1 c) ∧ OwnG 9 strV w' W.heap.size (.slice a 1 c) [[98]] ∧ Below W.heap.size W w')))
  have HN := Lib.hid (fun (W : World) (hb : Below w2.heap.size w2 W) => (by
    have h := tree_Names_i s (s.ks.length - 1) W (T.below hb) (by rw [hK]; decide) (by rw [hK]; decide)
    rw [B2, HB.out] at h
    refine h.mono ?_
    rintro e w' ⟨v, xs, rfl, hx, ho, _, hb'⟩
    have hl : xs.length = 3 := by
      have := congrArg List.length hx
      rw [List.length_map, srtT_len, hK] at this; exact this
    obtain ⟨a, c, rfl⟩ := ho.shape
    rw [hl]
    exact ⟨a, c, rfl, hb'⟩ : Calls Try.prog 19 #[.pointer (some ⟨B, 0, none⟩)] W (fun e w' => ∃ a c, e = .returned (.slice a 3 c) ∧ Below W.heap.size W w')))
  have HB2 := Lib.hid hb2; have HV := Lib.hid hV
  clear T K V B2 F C hK hV hb2 HB HK0 HV0 HF0 HB1 hP
  have hg1 := HG.out (w2.alloc (.cells #[.string ⟨#[97]⟩, .string ⟨#[66]⟩] 9)) ((Below.refl _ w2).alloc (Nat.le_refl _) _) (.slice (some ⟨w2.heap.size, 0, none⟩) 2 2) [[97], [66]] (some (.int .i64 7)) (by rw [HV.out]; rfl) (fun v e => by cases e; exact ⟨_, rfl⟩) (nm_lit w2 [[97], [66]] [.string ⟨#[97]⟩, .string ⟨#[66]⟩] 2 _ rfl rfl (by decide) rfl) (ok_of (by decide))
  unfold GetPost at hg1
  simp only [Option.getD_some, Option.isSome_some] at hg1
  go_wp2_with fail
  refine hg1.mono ?_
  rintro e w3 ⟨rfl, b3⟩
  have q3 : Below w2.heap.size w2 w3 := ((Below.refl _ w2).alloc (Nat.le_refl _) _).trans (b3.mono (by simp))
  have hg2 := HG.out (w3.alloc (.cells #[.string ⟨#[98]⟩] 9)) (q3.alloc q3.size _) (.slice (some ⟨w3.heap.size, 0, none⟩) 1 1) [[98]] none (by rw [HV.out]; rfl) (fun v e => by cases e) (nm_lit w3 [[98]] [.string ⟨#[98]⟩] 1 _ rfl rfl (by decide) rfl) (ok_of (by decide))
  unfold GetPost at hg2
  simp only [Option.getD_none, Option.isSome_none] at hg2
  have HQ3 := Lib.hid q3
  clear b3 q3 hg1
  go_wp2_with fail
  refine hg2.mono ?_
  rintro e w4 ⟨rfl, b4⟩
  have q4 : Below w2.heap.size w2 w4 := (HQ3.out.alloc HQ3.out.size _).trans (b4.mono (by have := HQ3.out.size; simp; omega))
  have hki := HKI.out w4 q4
  have HQ4 := Lib.hid q4
  clear b4 q4 hg2 HQ3
  go_wp2_with fail
  refine hki.mono ?_
  rintro e w5 ⟨ka, kc, rfl, ok, b5⟩
  obtain ⟨g, rfl, hgb, hgl, hcell⟩ := ok.cells (by simp)
  have c0 := hcell 0 (by simp)
  have q5 : Below w2.heap.size w2 w5 := HQ4.out.trans (b5.mono HQ4.out.size)
  have hh := HH.out (w5.alloc (.cells #[.string ⟨#[98]⟩] 9)) (q5.alloc q5.size _) (.slice (some ⟨w5.heap.size, 0, none⟩) 1 1) [[98]] true (by decide) (nm_lit w5 [[98]] [.string ⟨#[98]⟩] 1 _ rfl rfl (by decide) rfl) (ok_of (by decide))
  have HQ5 := Lib.hid q5; have HC0 := Lib.hid c0; have HGL := Lib.hid hgl
  clear b5 q5 hki HQ4 ok hgb hgl hcell c0
  go_wp2_with fail
  refine hh.mono ?_
  rintro e w6 ⟨rfl, b6⟩
  have b56 : Below w5.heap.size w5 w6 := ((Below.refl _ w5).alloc (Nat.le_refl _) _).trans (b6.mono (by simp))
  have q6 : Below w2.heap.size w2 w6 := HQ5.out.trans (b56.mono HQ5.out.size)
  have hl := HL.out w6 q6
  have HQ6 := Lib.hid q6; have HB56 := Lib.hid b56
  clear b6 q6 b56 hh
  go_wp2_with fail
  refine hl.mono ?_
  rintro e w7 ⟨rfl, rfl⟩
  have hd := HD.out (w7.alloc (.cells #[.string ⟨#[120]⟩, .string ⟨#[98]⟩] 9)) (HQ6.out.alloc HQ6.out.size _) (.slice (some ⟨w7.heap.size, 0, none⟩) 2 2) (nm_lit w7 [[120], [98]] [.string ⟨#[120]⟩, .string ⟨#[98]⟩] 2 _ rfl rfl (by decide) rfl)
  clear hl
  go_wp2_with fail
  refine hd.mono ?_
  rintro e w8 ⟨da, dc, rfl, b8⟩
  have b78 : Below w7.heap.size w7 w8 := ((Below.refl _ w7).alloc (Nat.le_refl _) _).trans (b8.mono (by simp))
  have q8 : Below w2.heap.size w2 w8 := HQ6.out.trans (b78.mono HQ6.out.size)
  have c8 : w8.cell? ⟨g, 0, none⟩ = some (.string ⟨#[98]⟩) := ((HB56.out.trans (b78.mono HB56.out.size)).cell (p := ⟨g, 0, none⟩) HGL.out).trans HC0.out
  have hn := HN.out w8 q8
  have HQ8 := Lib.hid q8
  clear b8 b78 q8 hd HB56 HQ6 HQ5
  go_wp2_with fail
  refine hn.mono ?_
  rintro e w9 ⟨na, nc, rfl, b9⟩
  have HB9 := Lib.hid (HB2.out.trans ((HQ8.out.trans (b9.mono HQ8.out.size)).mono HB2.out.size))
  clear b9 hn c8
  go_wp2
  go_ret
  exact ⟨rfl, HB9.out⟩
end
end Go.Proofs.Ytbnkecmhmcligaa

