/-
  tree.downward and its iterator: a range over slices.Backward of a folded name.
-/
import Derived.Test.YtbnkecmhmcligaaMQ04
import Derived.Test.YtbnkecmhmcligaaMQ10
import Derived.Test.YtbnkecmhmcligaaMQ21
namespace Go.Proofs.Ytbnkecmhmcligaa
set_option linter.unusedVariables false
set_option linter.unusedSimpArgs false
set_option maxRecDepth 20000
open Go.RowKit Go.Shelf
set_option maxRecDepth 20000
theorem tree_downward (a : Option Addr) (n c : Nat) (w : World) :
    Calls Try.prog 20 #[.slice a n c] w fun e w' => e = .returned (.func (.func 31) #[] #[.pointer (some ⟨w.heap.size, 0, none⟩)]) ∧ w' = w.alloc (.cells #[.slice a n c] 28) := by
  go_enter Try.func20, Try.ntmps20
  go_wp2
  go_ret
  exact ⟨rfl, rfl⟩
def dwV (m : Nm) (x : Fin m.length) : Array Value := #[strV m[x]]
theorem own_t {B : Nat} {b : Nat} {t : TypeId} {v : Value} {β : Type} : OwnT B (fun (_ : β) W => Boxed W b t v) := OwnFrom.t (Own.from (boxed_own b t (fun _ => v)) B)
theorem ownG_t {B base : Nat} {T : TypeId} {α β : Type} {enc : α → Value} {v : Value} {xs : List α} : OwnT B (fun (_ : β) W => OwnG T enc W base v xs) := fun _ W W' row hs hg hr => by
  cases row with
  | none => exact OwnG.kept hs hg (by cases v.ownBlock <;> simp)
  | some r =>
    obtain ⟨_, o, ho, h1, _⟩ := hr r rfl
    exact OwnG.kept hs hg (.inr (fun e => OwnG.ne_of hs ho h1 e.symm))
section
attribute [local go_sem] Oper.semAt_some
set_option maxRecDepth 100000 in
set_option maxHeartbeats 4000000 in
theorem down1_in (l b : Nat) (v : Value) (n m : Nm) (hm : foldN n = m) (hk : NmBig n) (J Jx : List (Fin m.length) → World → Prop) (W : World) (hJ : OwnT W.heap.size J) (hJx : OwnT W.heap.size Jx)
    (hY : ∀ pre x W1, J pre W1 → pre.length < m.length → YieldAt Fence.wide 5 Try.prog l (dwV m x) W1 fun e W' =>
      (e = .returned (.bool true) ∧ J (pre ++ [x]) W' ∧ KeepTy W1 W' ∧ KeepsT W.heap.size W1 W') ∨ (e = .returned (.bool false) ∧ Jx (pre ++ [x]) W' ∧ KeepsT W.heap.size W1 W'))
    (hb : Boxed W b 28 v) (hA : NmAt W v n) (h0 : J [] W) :
    Calls Try.prog 31 #[.func (.yield l) #[] #[], .pointer (some ⟨b, 0, none⟩)] W fun e W' => (∃ v, e = .returned v) ∧
      ((∃ ys, ys = (List.finRange m.length).reverse ∧ J ys W') ∨ (∃ pre, pre <+: (List.finRange m.length).reverse ∧ Jx pre W')) := by
  have hml : m.length ≤ 8796093021952 := by rw [← hm, foldN_len]; exact hk.1
  obtain ⟨W0, hW0⟩ : ∃ W0, W.alloc (.cells #[.func (.yield l) #[] #[]] 67) = W0 := ⟨_, rfl⟩
  have hB0 : Below W.heap.size W W0 := by rw [← hW0]; exact (Below.refl _ W).alloc (Nat.le_refl _) _
  have hz0 : W0.heap.size = W.heap.size + 1 := by rw [← hW0]; simp
  have hy0 : Boxed W0 W.heap.size 67 (.func (.yield l) #[] #[]) := by rw [← hW0]; exact Boxed.new W _ _
  have hbx : Boxed W0 b 28 v := (hB0.block b hb.lt).trans hb
  have hF := name_FoldB v n W0 (hA.1.below hB0) hk
  rw [hm] at hF
  have hj0 := hJ.below h0 hB0
  have HJ := Lib.hid hJ; have HJX := Lib.hid hJx; have HY := Lib.hid hY; have HJ0 := Lib.hid hj0; have HB0 := Lib.hid hB0; have HZ0 := Lib.hid hz0; have HY0 := Lib.hid hy0; have HML := Lib.hid hml
  have hcb := hbx.cell
  clear hJ hJx hY hA h0 hm hj0 hB0 hz0 hy0 hb hbx hk hml
  refine (callsIn_wide (n := 8)).1 ?_
  refine callsIn_of_wp_marks Try.func31 rfl trivial ?_ rfl
  simp only [Try.ntmps31, List.size_toArray, List.length_cons, List.length_nil, Nat.reduceAdd, Nat.reduceSub, Array.replicate_succ, Array.replicate_zero, List.push_toArray, List.append_toArray, List.nil_append, List.cons_append]
  refine wpIn_wide.2 ?_
  go_wp2_with fail
  clear hW0
  refine hF.mono ?_
  rintro e w1 ⟨v1, rfl, ho1, hb1⟩
  obtain ⟨a1, c1, rfl⟩ := ho1.shape
  obtain ⟨k1, hk1⟩ : ∃ k, m.length = k := ⟨_, rfl⟩
  rw [hk1] at ho1 ⊢
  have hj1 := HJ.out.below HJ0.out hb1
  have hy1 := (hb1.block _ HY0.out.lt).trans HY0.out
  have HO1 := Lib.hid ho1; have HJ1 := Lib.hid hj1; have HY1 := Lib.hid (show Boxed w1 W.heap.size 67 (.func (.yield l) #[] #[]) from hy1); have HB1 := Lib.hid (HB0.out.trans (hb1.mono HB0.out.size)); have HZ1 := Lib.hid (show W.heap.size + 1 ≤ w1.heap.size by have := HZ0.out; have := hb1.size; omega)
  clear ho1 hj1 hy1 hb1 hF hcb HJ0 HY0 HB0 HZ0
  go_wp2_with fail
  refine (backN _ _ _ _).mono ?_
  rintro e w2 ⟨rfl, rfl⟩
  go_wp2
  refine (wpIn_wide (n := 8)).1 ?_
  obtain ⟨W2, hW2⟩ : ∃ W2, w1.alloc (.cells #[.slice a1 k1 c1] 28) = W2 := ⟨_, rfl⟩
  have x2 : Boxed W2 w1.heap.size 28 (.slice a1 k1 c1) := by rw [← hW2]; exact Boxed.new w1 _ _
  have hb2 : Below w1.heap.size w1 W2 := by rw [← hW2]; exact (Below.refl _ w1).alloc (Nat.le_refl _) _
  have hz2 : W2.heap.size = w1.heap.size + 1 := by rw [← hW2]; simp
  have ho2 : OwnG 9 strV W2 W0.heap.size (.slice a1 k1 c1) m := by rw [← hW2]; exact HO1.out.alloc _
  have hj2 := HJ.out.below HJ1.out hb2
  have hy2 : Boxed W2 W.heap.size 67 (.func (.yield l) #[] #[]) := (hb2.block _ HY1.out.lt).trans HY1.out
  have hA2 : StrsAt W2 (.slice a1 k1 c1) m := StrsAt.of_own ho2
  rw [hW2]
  have HZ2 := Lib.hid hz2
  clear hW2 hb2 hz2
  refine wpIn_rangeFunc_T rfl (by omega) (gf := 42) (lb := #[.pointer (some ⟨w1.heap.size, 0, none⟩)]) rfl trivial (enters_of Try.func42 (by kernel_rfl) rfl)
    (backN_stops _ (by omega) w1.heap.size (.slice a1 k1 c1) m (by have := HML.out; unfold maxLen; omega) W2 x2.lt x2.cell hA2) keepN_t (keepN_b x2.lt hA2.row_lt) (Below.refl _ _) (fun _ => rfl)
    (fun pre W' => J pre W' ∧ Boxed W' w1.heap.size 28 (.slice a1 k1 c1) ∧ OwnG 9 strV W' W0.heap.size (.slice a1 k1 c1) m ∧ Boxed W' W.heap.size 67 (.func (.yield l) #[] #[]))
    (fun c pre W' => c = .ret ∧ Jx pre W')
    (OwnT.and (HJ.out.mono (by have := HZ1.out; have := HZ2.out; omega)) (OwnT.and own_t (OwnT.and ownG_t own_t)))
    (fun c s A B row h hg hr => ⟨h.1, (HJX.out.mono (by have := HZ1.out; have := HZ2.out; omega)) s A B row h.2 hg hr⟩)
    ⟨hj2, x2, ho2, hy2⟩
    (fun x => { tmps := #[.func (.yield l) #[] #[], .pointer (some ⟨b, 0, none⟩), .pointer (some ⟨W.heap.size, 0, none⟩), undef, strV m[x], v, .slice a1 k1 c1, .func (.func 42) #[] #[.pointer (some ⟨w1.heap.size, 0, none⟩)], .int .i64 (x.val : Int), strV m[x], undef, undef, undef, undef], defers := [] }) ?assign ?body ?done ?stop
  case assign =>
    intro l x W K hK
    unfold idxV
    gi_wp2
    exact hK
  case body =>
    rintro l' pre x W3 hl' ⟨rec, hrec⟩ ⟨hj, hbb, hog, hyb⟩ hlt
    obtain ⟨fn, tmps, assign, body, hy, hR⟩ := HY.out pre x W3 hj hlt
    unfold dwV at hy
    have cy := hyb.cell
    have HBB := Lib.hid hbb; have HOG := Lib.hid hog; have HYB := Lib.hid hyb
    generalize strV m[x] = sv at *
    clear hj hbb hog hyb hrec
    gi_wp2
    refine (roundIn_in l' hR).mono ?_
    rintro e W4 (⟨rfl, hJ4, hk4, ht4⟩ | ⟨rfl, hJx4, ht4⟩)
    · gi_wp2
      exact ⟨ht4.mono (by have := HZ1.out; have := HZ2.out; omega), keepN_ty HBB.out HOG.out hk4, hJ4, Boxed.ty HBB.out hk4, HOG.out.ty hk4, hk4.2 _ _ _ (.inr (.inr rfl)) HYB.out⟩
    · gi_wp2
      exact ⟨ht4.mono (by have := HZ1.out; have := HZ2.out; omega), rfl, hJx4⟩
  case done =>
    rintro D xs W3 hD rfl ⟨hj, -, -, -⟩ hKD
    gi_wp2
    refine ⟨by simp, .inl ⟨_, _, rfl, run_takeDeferred hKD, ?_⟩⟩
    refine ⟨_, results_none rfl _ _ _, ⟨_, rfl⟩, .inl ⟨_, rfl, HJ.out.putObj _ hj (by have := HZ1.out; have := HZ2.out; omega) hKD ⟨rfl, rfl⟩⟩⟩
  case stop =>
    rintro D c pre W3 hD hp ⟨rfl, hjx⟩ hKD
    gi_wp2
    refine ⟨by simp, .inl ⟨_, _, rfl, run_takeDeferred hKD, ?_⟩⟩
    refine ⟨_, results_none rfl _ _ _, ⟨_, rfl⟩, .inr ⟨_, hp, HJX.out.putObj _ hjx (by have := HZ1.out; have := HZ2.out; omega) hKD ⟨rfl, rfl⟩⟩⟩
theorem down_stopsB (n : Nat) (b : Nat) (v : Value) (q m : Nm) (hm : foldN q = m) (hk : NmBig q) (w : World) (hb : Boxed w b 28 v) (hA : NmAt w v q) :
    SeqStopsT Fence.wide n Try.prog 31 #[.pointer (some ⟨b, 0, none⟩)] (dwV m) KeepTy (fun ys => ys = (List.finRange m.length).reverse) (fun pre => pre <+: (List.finRange m.length).reverse) m.length w := fun l J Jx W hW hJ hJx hY h0 =>
  callsIn_wide.2 (down1_in l b v q m hm hk J Jx W hJ hJx (fun pre x W1 hj hl => yieldAt_wide _ (hY pre x W1 hj hl)) ((hW.block b hb.lt).trans hb) (hA.below hW) h0)
theorem down_stops (n : Nat) (b : Nat) (v : Value) (q m : Nm) (hm : foldN q = m) (hk : NmOK q) (w : World) (hb : Boxed w b 28 v) (hA : NmAt w v q) :
    SeqStopsT Fence.wide n Try.prog 31 #[.pointer (some ⟨b, 0, none⟩)] (dwV m) KeepTy (fun ys => ys = (List.finRange m.length).reverse) (fun pre => pre <+: (List.finRange m.length).reverse) m.length w := down_stopsB n b v q m hm hk.big w hb hA
end
end Go.Proofs.Ytbnkecmhmcligaa

