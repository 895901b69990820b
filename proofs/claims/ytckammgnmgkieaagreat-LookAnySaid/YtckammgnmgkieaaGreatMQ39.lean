import Derived.Lib.AppendIntMem
import Derived.Lib.ItoaMem
import Derived.IntWalk
import Derived.Outline
import Derived.StillTailTactics
import Derived.Test.YtckammgnmgkieaaGreatMQ30
import Derived.Test.YtckammgnmgkieaaGreatMQ24
namespace Go.Proofs.YtckammgnmgkieaaGreat
set_option linter.unusedVariables false
set_option linter.unusedSimpArgs false
set_option maxRecDepth 100000
set_option maxHeartbeats 2000000
open Go.RowKit Go.Shelf
theorem nm_len {W : World} {a : Option Addr} {n c : Nat} {xs : Nm} (h : NmAt W (.slice a n c) xs) : n = xs.length := by
 obtain ⟨a', c', e, -⟩ := nmAt_sl.1 h
 injection e with _ e _
 rw [e, List.length_map]
theorem nm_cap {W : World} {a : Option Addr} {n c : Nat} {xs : Nm} (h : NmAt W (.slice a n c) xs) : n ≤ c := by
 obtain ⟨a', n', c', e, h1, _⟩ := h.2
 cases e; exact h1
theorem nm_anc {W : World} {g off q c : Nat} {n : Nm} (h : NmAt W (.slice (some ⟨g, off, none⟩) q c) n) {s : Nat} (h1 : 1 ≤ s) (h2 : s ≤ q) : NmAt W (.slice (some ⟨g, off + (q - s), none⟩) s (c - (q - s))) (n.drop (q - s)) := by
 have hq := nm_len h
 have hc := nm_cap h
 have h0 := h.1
 subst hq
 have hd := qcq h0 hc (n.length - s) (by omega) (c - (n.length - s))
 rw [if_neg (by omega), show n.length - (n.length - s) = s by omega] at hd
 exact ⟨hd, ⟨_, _, _, rfl, by omega, fun e => by cases e⟩⟩
theorem qc4 {N : Nat} {p : List (Fin N)} {x : Fin N} (h : p ++ [x] <+: List.finRange N) : x.val = p.length ∧ ∀ j : Fin N, j.val < x.val → j ∈ p := by
 obtain ⟨t, ht⟩ := h
 have hx : (List.finRange N)[p.length]? = some x := by rw [← ht]; simp
 have hxv : x.val = p.length := by
  obtain ⟨h1, h2⟩ := List.getElem?_eq_some_iff.1 hx
  rw [← h2]; simp
 refine ⟨hxv, fun j hj => ?_⟩
 have h1 : (List.finRange N)[j.val]? = some j := by simp
 have h2 : (List.finRange N)[j.val]? = p[j.val]? := by
  rw [← ht, List.append_assoc, List.getElem?_append_left (by omega)]
 rw [h2] at h1
 exact List.mem_of_getElem? h1
def dnV {N : Nat} (g off len c least : Nat) (x : Fin N) : Array Value := #[.slice (some ⟨g, off + (len - (least + x.val)), none⟩) (least + x.val) (c - (len - (least + x.val)))]
theorem qhj (least : Nat) (a : Option Addr) (n c : Nat) (w : World) :
 Calls Tryz.prog 71 #[.int .i64 (least : Int), .slice a n c] w fun e w' => e = .returned (.func (.func 126) #[] #[.pointer (some ⟨w.heap.size, 0, none⟩), .pointer (some ⟨w.heap.size + 1, 0, none⟩)]) ∧ w' = (w.alloc (.cells #[.int .i64 (least : Int)] 3)).alloc (.cells #[.slice a n c] 24) := by
 go_enter Tryz.func71, Tryz.ntmps71
 go_wp2
 go_ret
 exact ⟨rfl, rfl⟩
section
attribute [local go_sem] Oper.semAt_some
theorem qh3 (n : Nat) (hn : 1 ≤ n) (l b1 b2 : Nat) (a : Option Addr) (g off len c least N : Nat) (hN : N = len + 1 - least) (hle : 1 ≤ least) (ha : N = 0 ∨ a = some ⟨g, off, none⟩) (hc : len ≤ c) (hs : len ≤ 1048576) (hs2 : least ≤ 1048577) (J Jx : List (Fin N) → World → Prop)
 (hY : ∀ pre x W, J pre W → pre.length < N → YieldAt Fence.wide (n - 1) Tryz.prog l (dnV g off len c least x) W fun e W' =>
   (e = .returned (.bool true) ∧ J (pre ++ [x]) W' ∧ KeepB b2 W W') ∨ (e = .returned (.bool false) ∧ Jx (pre ++ [x]) W'))
 (W : World) (hc1 : W.cell? ⟨b1, 0, none⟩ = some (.int .i64 (least : Int))) (hc2 : W.cell? ⟨b2, 0, none⟩ = some (.slice a len c)) (h0 : J [] W) :
 CallsIn Fence.wide n Tryz.prog 126 #[.func (.yield l) #[] #[], .pointer (some ⟨b1, 0, none⟩), .pointer (some ⟨b2, 0, none⟩)] W fun e W' => (∃ v, e = .returned v) ∧
  ((∃ ys, ys = List.finRange N ∧ J ys W') ∨ (∃ pre, pre <+: List.finRange N ∧ Jx pre W')) := by
 have HNN := qH0 hN; have HAA := qH0 ha
 clear hN ha
 refine callsIn_of_wp Tryz.func126 rfl trivial ?_ rfl
 simp only [Tryz.ntmps126, List.size_toArray, List.length_cons, List.length_nil, Nat.reduceAdd, Nat.reduceSub, Array.replicate_succ, Array.replicate_zero, List.push_toArray, List.append_toArray, List.nil_append, List.cons_append]
 gi_wp2
 gi_loopw [4] (fun i wr => ∃ k : Nat, k ≤ N ∧ i = .int .i64 ((least + k : Nat) : Int) ∧ J ((List.finRange N).take k) wr ∧ KeepB b2 W wr)
  (fun i _ => ((len : Int) + 1 - intOf i).toNat)
 case atStart => exact ⟨0, Nat.zero_le _, rfl, h0, KeepB.refl _ _⟩
 case round =>
  obtain ⟨k, hk, rfl, hJs, hnx⟩ := hrel
  obtain ⟨s, hs⟩ : ∃ s, least + k = s := ⟨_, rfl⟩
  have HS := qH0 hs
  rw [hs]
  clear hs
  have hcb : wr.cell? ⟨b2, 0, none⟩ = some (.slice a len c) := hnx.cell.trans hc2
  by_cases hlt : k < N
  ·have hsl : (s : Int) ≤ (len : Int) := by have := HS.out; have := HNN.out; omega
   have hs1 : 1 ≤ s := by have := HS.out; omega
   obtain rfl : a = some ⟨g, off, none⟩ := by
    rcases HAA.out with h | h
    ·omega
    ·exact h
   obtain ⟨d, hd⟩ : ∃ d, d + s = len := ⟨len - s, by omega⟩
   have hsub : (len : Int) - (s : Int) = (d : Int) := by omega
   have hdl : (d : Int) ≤ (len : Int) := by omega
   have hcd : ¬ c = d := by omega
   have hln : len - d = s := by omega
   obtain ⟨fn, tmps, assign, body, hy, hR⟩ := hY _ ⟨k, hlt⟩ wr hJs (by simp; omega)
   have hv : dnV g off len c least (⟨k, hlt⟩ : Fin N) = #[.slice (some ⟨g, off + d, none⟩) s (c - d)] := by
    unfold dnV
    simp only
    rw [HS.out, show len - s = d by omega]
   rw [hv] at hy
   have HD := qH0 hd
   clear hv hd
   gi_wp2
   refine hR.mono ?_
   rintro e W3 (⟨rfl, hJ3, hk3⟩ | ⟨rfl, hJx3⟩)
   ·gi_wp2
    go_roundw
    case rel => exact ⟨k + 1, by omega, by congr 1; have := HS.out; omega, by rw [qak hlt]; exact hJ3, hnx.trans hk3⟩
    case measure => simp [intOf]; omega
   ·gi_wp2
    refine bodyPost_ret (results_none rfl _ _ _) rfl ?_
    exact ⟨⟨_, rfl⟩, .inr ⟨_, by rw [← qak hlt]; exact List.take_prefix _ _, hJx3⟩⟩
  ·obtain rfl : k = N := by omega
   have hsl : ¬ (s : Int) ≤ (len : Int) := by have := HS.out; have := HNN.out; omega
   rw [List.take_of_length_le (by simp)] at hJs
   gi_wp2
   go_end0
   first
    | exact ⟨⟨_, rfl⟩, .inl hJs⟩
    | exact ⟨⟨_, rfl⟩, .inl ⟨_, rfl, hJs⟩⟩
theorem qgm (n : Nat) (hn : 1 ≤ n) (b1 b2 : Nat) (a : Option Addr) (g off len c least N : Nat) (hN : N = len + 1 - least) (hle : 1 ≤ least) (ha : N = 0 ∨ a = some ⟨g, off, none⟩) (hc : len ≤ c) (hs : len ≤ 1048576) (hs2 : least ≤ 1048577) (w : World) (h1 : b1 < w.heap.size) (h2 : b2 < w.heap.size)
 (hc1 : w.cell? ⟨b1, 0, none⟩ = some (.int .i64 (least : Int))) (hc2 : w.cell? ⟨b2, 0, none⟩ = some (.slice a len c)) :
 SeqStopsK Fence.wide n Tryz.prog 126 #[.pointer (some ⟨b1, 0, none⟩), .pointer (some ⟨b2, 0, none⟩)] (dnV (N := N) g off len c least) (KeepB b2) (fun ys => ys = List.finRange N) (fun pre => pre <+: List.finRange N) N w := fun l J Jx W hW _ _ hY h0 =>
 qh3 n hn l b1 b2 a g off len c least N hN hle ha hc hs hs2 J Jx hY W ((hW.cell (p := ⟨b1, 0, none⟩) h1).trans hc1) ((hW.cell (p := ⟨b2, 0, none⟩) h2).trans hc2) h0
end
end Go.Proofs.YtckammgnmgkieaaGreat
namespace Go.Proofs.YtckammgnmgkieaaGreat
set_option linter.unusedVariables false
set_option linter.unusedSimpArgs false
set_option maxRecDepth 20000
open Go.RowKit Go.Shelf
open Stb (COrd)
def StrictR (l : List Rc) : Prop := l.Pairwise fun a b => qac a b < 0
structure CanOf (l c : List Rc) : Prop where
 up : StrictR c
 has : ∀ x ∈ l, ∃ y ∈ c, qac y x = 0 ∧ y.ttl ≤ x.ttl
 of : ∀ y ∈ c, ∃ x ∈ l, qac x y = 0 ∧ x.ttl = y.ttl
theorem qa5 (x y : Rc) : qac y x = - qac x y := cord_compareR.anti x y
theorem qma {x y z : Rc} (h1 : qac x y < 0) (h2 : qac y z ≤ 0) : qac x z < 0 := by
 have a := qa5 x z; have b := qa5 x y
 have t := cord_compareR.trans y z x h2
 have := cord_compareR.trans x y z (by omega) h2
 by_cases c : qac x z < 0
 ·exact c
 ·have := t (by omega); omega
theorem ql0 {x y z : Rc} (h1 : qac x y ≤ 0) (h2 : qac y z < 0) : qac x z < 0 := by
 have a := qa5 x z; have b := qa5 y z
 have t := cord_compareR.trans z x y
 have := cord_compareR.trans x y z h1 (by omega)
 by_cases c : qac x z < 0
 ·exact c
 ·have := t (by omega) h1; omega
theorem cR_eq {x y z : Rc} (h1 : qac x y = 0) (h2 : qac y z = 0) : qac x z = 0 := by
 have a := qa5 x z; have b := qa5 y z; have c := qa5 x y
 have t1 := cord_compareR.trans x y z (by omega) (by omega)
 have t2 := cord_compareR.trans z y x (by omega) (by omega)
 omega
theorem cR_sym {x y : Rc} (h : qac x y = 0) : qac y x = 0 := by have := qa5 x y; omega
theorem qjr (a b : Nat) : minT a b ≤ a ∧ minT a b ≤ b ∧ (minT a b = a ∨ minT a b = b) := by
 unfold minT; split <;> omega
theorem qju {x : Rc} : ∀ (l : List Rc), StrictR l → ∀ z, qac z x < 0 → (∀ y ∈ l, qac z y < 0) → ∀ y ∈ insR l x, qac z y < 0
 | [], _, z, h, _, y, hy => by simp [insR] at hy; subst hy; exact h
 | a :: r, hs, z, h, h2, y, hy => by
  have p := List.pairwise_cons.1 hs
  simp only [insR] at hy
  split at hy
  ·rcases List.mem_cons.1 hy with rfl | hy
   ·exact h2 y (by simp)
   ·exact qju r p.2 z h (fun y hy => h2 y (by simp [hy])) y hy
  ·split at hy
   ·rcases List.mem_cons.1 hy with rfl | hy
    ·exact h2 a (by simp)
    ·exact h2 y (by simp [hy])
   ·rcases List.mem_cons.1 hy with rfl | hy
    ·exact h
    ·exact h2 y hy
theorem qeU (x : Rc) : ∀ (l : List Rc), StrictR l → StrictR (insR l x)
 | [], _ => by simp [insR, StrictR]
 | a :: r, hs => by
  have p := List.pairwise_cons.1 hs
  simp only [insR]
  split
  ·rename_i c
   exact List.pairwise_cons.2 ⟨qju r p.2 a c p.1, qeU x r p.2⟩
  ·rename_i c
   split
   ·exact List.pairwise_cons.2 ⟨fun y hy => p.1 y hy, p.2⟩
   ·rename_i c2
    have hx : qac x a < 0 := by have := qa5 x a; omega
    refine List.pairwise_cons.2 ⟨fun y hy => ?_, hs⟩
    rcases List.mem_cons.1 hy with rfl | hy
    ·exact hx
    ·exact qma hx (by have := p.1 y hy; omega)
theorem qe6 (x : Rc) : ∀ (l : List Rc), (∃ y ∈ insR l x, qac y x = 0 ∧ y.ttl ≤ x.ttl) ∧ ∀ a ∈ l, ∃ y ∈ insR l x, qac y a = 0 ∧ y.ttl ≤ a.ttl
 | [] => ⟨⟨x, by simp [insR], qay x, qN0⟩, by simp⟩
 | a :: r => by
  obtain ⟨⟨y, hy, h1⟩, h2⟩ := qe6 x r
  simp only [insR]
  split
  ·refine ⟨⟨y, by simp [hy], h1⟩, fun b hb => ?_⟩
   rcases List.mem_cons.1 hb with rfl | hb
   ·exact ⟨b, by simp, qay b, qN0⟩
   ·obtain ⟨z, hz, h⟩ := h2 b hb
    exact ⟨z, by simp [hz], h⟩
  ·have m := qjr a.ttl x.ttl
   split
   ·rename_i c
    refine ⟨⟨_, List.mem_cons_self .., c, m.2.1⟩, fun b hb => ?_⟩
    rcases List.mem_cons.1 hb with rfl | hb
    ·exact ⟨_, List.mem_cons_self .., qay b, m.1⟩
    ·exact ⟨b, by simp [hb], qay b, qN0⟩
   ·exact ⟨⟨x, by simp, qay x, qN0⟩, fun b hb => ⟨b, by simp only [List.mem_cons] at hb ⊢; exact Or.inr hb, qay b, qN0⟩⟩
theorem qjk (x : Rc) : ∀ (l : List Rc), ∀ y ∈ insR l x, ∃ a, (a = x ∨ a ∈ l) ∧ qac a y = 0 ∧ a.ttl = y.ttl
 | [], y, hy => by simp [insR] at hy; subst hy; exact ⟨y, .inl rfl, qay y, rfl⟩
 | a :: r, y, hy => by
  simp only [insR] at hy
  split at hy
  ·rcases List.mem_cons.1 hy with rfl | hy
   ·exact ⟨y, .inr (by simp), qay y, rfl⟩
   ·obtain ⟨b, hb, h⟩ := qjk x r y hy
    exact ⟨b, hb.imp id (fun h => by simp [h]), h⟩
  ·split at hy
   ·rename_i c
    rcases List.mem_cons.1 hy with rfl | hy
    ·rcases (qjr a.ttl x.ttl).2.2 with e | e
     ·exact ⟨a, .inr (by simp), qay a, e.symm⟩
     ·exact ⟨x, .inl rfl, cR_sym c, e.symm⟩
    ·exact ⟨y, .inr (by simp [hy]), qay y, rfl⟩
   ·simp only [List.mem_cons] at hy
    exact ⟨y, hy.imp id (fun h => by simpa using h), qay y, rfl⟩
theorem qeY (x : Rc) : ∀ (l : List Rc), (insR l x).length ≤ l.length + 1 ∧ l.length ≤ (insR l x).length
 | [] => by simp [insR]
 | a :: r => by
  have := qeY x r
  simp only [insR]
  repeat' split
  all_goals simp only [List.length_cons]; omega
theorem CanOf.step {l c : List Rc} (h : CanOf l c) (x : Rc) : CanOf (l ++ [x]) (insR c x) := by
 refine ⟨qeU x c h.up, fun a ha => ?_, fun y hy => ?_⟩
 ·rcases List.mem_append.1 ha with ha | ha
  ·obtain ⟨y, hy, h1, h2⟩ := h.has a ha
   obtain ⟨z, hz, g1, g2⟩ := (qe6 x c).2 y hy
   exact ⟨z, hz, cR_eq g1 h1, Nat.le_trans g2 h2⟩
  ·simp at ha; subst ha
   exact (qe6 a c).1
 ·obtain ⟨a, ha, h1, h2⟩ := qjk x c y hy
  rcases ha with rfl | ha
  ·exact ⟨a, by simp, h1, h2⟩
  ·obtain ⟨b, hb, g1, g2⟩ := h.of a ha
   exact ⟨b, by simp [hb], cR_eq g1 h1, by omega⟩
theorem qa2 (l : List Rc) (x : Rc) : canonM (l ++ [x]) = insR (canonM l) x := by simp [canonM, List.foldl_append]
theorem qaW {α : Type} {P : List α → Prop} (h0 : P []) (hs : ∀ l x, P l → P (l ++ [x])) (l : List α) : P l := by
 have : ∀ l : List α, P l.reverse := by
  intro l
  induction l with
  | nil => exact h0
  | cons x l ih => rw [List.reverse_cons]; exact hs _ _ ih
 have := this l.reverse
 rwa [List.reverse_reverse] at this
theorem qb2 (l : List Rc) : CanOf l (canonM l) :=
 qaW (P := fun l => CanOf l (canonM l)) ⟨List.Pairwise.nil, by simp, by simp [canonM]⟩ (fun l x h => by rw [qa2]; exact h.step x) l
theorem qaL (l : List Rc) : (canonM l).length ≤ l.length :=
 qaW (P := fun l => (canonM l).length ≤ l.length) (by simp [canonM]) (fun l x h => by rw [qa2]; have := qeY x (canonM l); simp; omega) l
def Covers (l m : List Rc) : Prop := ∀ x ∈ m, ∃ y ∈ l, qac y x = 0 ∧ y.ttl ≤ x.ttl
theorem StrictR.one {c : List Rc} : StrictR c → ∀ {y z : Rc}, y ∈ c → z ∈ c → qac y z = 0 → y = z := by
 intro h
 induction c with
 | nil => intro y z hy; cases hy
 | cons a c ih =>
  intro y z hy hz hc
  have p := List.pairwise_cons.1 h
  rcases List.mem_cons.1 hy with ey | hy'
  ·rcases List.mem_cons.1 hz with ez | hz'
   ·rw [ey, ez]
   ·have := p.1 z hz'; rw [ey] at hc; omega
  ·rcases List.mem_cons.1 hz with ez | hz'
   ·have := p.1 y hy'; have := qa5 y z; rw [ez] at hc this; omega
   ·exact ih p.2 hy' hz' hc
theorem qhw (l : List Rc) : Covers (canonM l) l := (qb2 l).has
theorem qhB (l : List Rc) : Covers l (canonM l) := fun y hy => by
 obtain ⟨x, hx, e1, e2⟩ := (qb2 l).of y hy
 exact ⟨x, hx, e1, by omega⟩
end Go.Proofs.YtckammgnmgkieaaGreat
namespace Go.Proofs.YtckammgnmgkieaaGreat
set_option linter.unusedVariables false
set_option linter.unusedSimpArgs false
set_option maxRecDepth 20000
open Go.RowKit Go.Shelf
def nxtM (rs : List Rc) (s : Nat) : Nat := match rs.drop s with
 | [] => s + 1
 | y :: r => s + 1 + (r.takeWhile (sameR y)).length
def segsF : Nat → Nat → List Rc → List (Nat × Nat)
 | 0, _, _ => []
 | f + 1, s, rs => if s < rs.length then (s, nxtM rs s) :: segsF f (nxtM rs s) rs else []
def segs (rs : List Rc) : List (Nat × Nat) := segsF rs.length 0 rs
theorem qaX {p : Rc → Bool} : ∀ (l : List Rc), (l.takeWhile p).length ≤ l.length ∧ (∀ j (hj : j < (l.takeWhile p).length) (h : j < l.length), p l[j] = true) ∧ (∀ h : (l.takeWhile p).length < l.length, p l[(l.takeWhile p).length] = false)
 | [] => ⟨qN0, fun j hj => by simp at hj, fun h => by simp at h⟩
 | x :: r => by
  obtain ⟨h1, h2, h3⟩ := qaX (p := p) r
  by_cases hx : p x = true
  ·have e : (x :: r).takeWhile p = x :: r.takeWhile p := by rw [List.takeWhile_cons, if_pos hx]
   simp only [e, List.length_cons]
   refine ⟨by omega, fun j hj h => ?_, fun h => ?_⟩
   ·cases j with
    | zero => exact hx
    | succ j => exact h2 j (by omega) (by omega)
   ·exact h3 (by omega)
  ·have hx' : p x = false := by simpa using hx
   have e : (x :: r).takeWhile p = [] := by rw [List.takeWhile_cons, if_neg hx]
   simp only [e, List.length_nil, List.length_cons]
   exact ⟨by omega, fun j hj => by omega, fun h => hx'⟩
theorem qeH {rs : List Rc} {s : Nat} (hs : s < rs.length) : nxtM rs s = s + 1 + ((rs.drop (s + 1)).takeWhile (sameR rs[s])).length := by
 unfold nxtM
 rw [List.drop_eq_getElem_cons hs]
theorem qdl {rs : List Rc} {s : Nat} (hs : s < rs.length) : s < nxtM rs s ∧ nxtM rs s ≤ rs.length := by
 rw [qeH hs]
 have := (qaX (p := sameR rs[s]) (rs.drop (s + 1))).1
 rw [List.length_drop] at this
 omega
theorem qkt {rs : List Rc} {s e : Nat} (hs : s < rs.length) (h1 : s + 1 ≤ e) (h2 : e ≤ nxtM rs s) (he : e < rs.length) (hsame : sameR rs[s] rs[e] = true) : e + 1 ≤ nxtM rs s := by
 rw [qeH hs] at h2 ⊢
 obtain ⟨t1, t2, t3⟩ := qaX (p := sameR rs[s]) (rs.drop (s + 1))
 rcases Nat.lt_or_ge e (s + 1 + ((rs.drop (s + 1)).takeWhile (sameR rs[s])).length) with h | h
 ·omega
 ·exfalso
  obtain ⟨j, rfl⟩ : ∃ j, e = s + 1 + j := ⟨e - (s + 1), by omega⟩
  have e1 : ((rs.drop (s + 1)).takeWhile (sameR rs[s])).length = j := by omega
  have := t3 (by rw [List.length_drop]; omega)
  simp only [e1, List.getElem_drop] at this
  rw [hsame] at this; cases this
theorem qg1 {rs : List Rc} {s e : Nat} (hs : s < rs.length) (h1 : s + 1 ≤ e) (h2 : e ≤ nxtM rs s) (h : e = rs.length ∨ ∃ he : e < rs.length, sameR rs[s] rs[e] = false) : e = nxtM rs s := by
 have hn := qdl hs
 rcases h with h | ⟨he, h⟩
 ·omega
 ·rcases Nat.lt_or_ge e (nxtM rs s) with h3 | h3
  ·exfalso
   rw [qeH hs] at h3
   obtain ⟨t1, t2, t3⟩ := qaX (p := sameR rs[s]) (rs.drop (s + 1))
   obtain ⟨j, rfl⟩ : ∃ j, e = s + 1 + j := ⟨e - (s + 1), by omega⟩
   have := t2 j (by omega) (by rw [List.length_drop]; omega)
   simp only [List.getElem_drop] at this
   rw [h] at this; cases this
  ·omega
theorem qdO (rs : List Rc) : ∀ (f s : Nat), rs.length - s ≤ f → segsF f s rs = segsF (rs.length - s) s rs
 | 0, s, h => by rw [show rs.length - s = 0 by omega]
 | f + 1, s, h => by
  by_cases hs : s < rs.length
  ·have hn := qdl hs
   obtain ⟨m, hm⟩ : ∃ m, rs.length - s = m + 1 := ⟨rs.length - s - 1, by omega⟩
   rw [hm]
   simp only [segsF, if_pos hs]
   rw [qdO rs f (nxtM rs s) (by omega), qdO rs m (nxtM rs s) (by omega)]
  ·rw [show rs.length - s = 0 by omega]
   simp only [segsF, if_neg hs]
def leftM (rs : List Rc) (s : Nat) : List (Nat × Nat) := segsF (rs.length - s) s rs
theorem qjO (rs : List Rc) : leftM rs 0 = segs rs := rfl
theorem qgD (rs : List Rc) {s : Nat} (h : rs.length ≤ s) : leftM rs s = [] := by unfold leftM; rw [show rs.length - s = 0 by omega]; rfl
theorem qdu {rs : List Rc} {s : Nat} (hs : s < rs.length) : leftM rs s = (s, nxtM rs s) :: leftM rs (nxtM rs s) := by
 have hn := qdl hs
 obtain ⟨m, hm⟩ : ∃ m, rs.length - s = m + 1 := ⟨rs.length - s - 1, by omega⟩
 unfold leftM
 rw [hm]
 simp only [segsF, if_pos hs]
 rw [qdO rs m (nxtM rs s) (by omega)]
def runR (rs : List Rc) (x : Nat × Nat) : Rc := match rs.drop x.1 with
 | [] => Rc.mk [] 0 ⟨0, [], [], [], []⟩
 | y :: r => ⟨y.owner, leastM y.ttl (r.take (x.2 - x.1 - 1)), y.data⟩
theorem qcf (p : Rc → Bool) : ∀ l : List Rc, l.take (l.takeWhile p).length = l.takeWhile p ∧ l.drop (l.takeWhile p).length = l.dropWhile p
 | [] => ⟨rfl, rfl⟩
 | x :: r => by
  have ih := qcf p r
  by_cases hx : p x = true
  ·simp only [List.takeWhile_cons, List.dropWhile_cons, hx, if_true, List.length_cons, List.take_succ_cons, List.drop_succ_cons, ih.1, ih.2]
   exact ⟨trivial, trivial⟩
  ·simp only [List.takeWhile_cons, List.dropWhile_cons, hx, Bool.false_eq_true, if_false, List.length_nil, List.take_zero, List.drop_zero]
   exact ⟨trivial, trivial⟩
theorem qgM (rs : List Rc) : ∀ (n s : Nat), rs.length - s ≤ n → (leftM rs s).map (runR rs) = grp (rs.drop s)
 | n, s, h => by
  by_cases hs : s < rs.length
  ·have hn := qdl hs
   have e1 := qeH hs
   obtain ⟨t1, t2⟩ := qcf (sameR rs[s]) (rs.drop (s + 1))
   rw [qdu hs, List.map_cons, List.drop_eq_getElem_cons hs, qbK]
   have ed : (rs.drop (s + 1)).dropWhile (sameR rs[s]) = rs.drop (nxtM rs s) := by rw [← t2, List.drop_drop, e1]
   have er : runR rs (s, nxtM rs s) = ⟨rs[s].owner, leastM rs[s].ttl ((rs.drop (s + 1)).takeWhile (sameR rs[s])), rs[s].data⟩ := by
    unfold runR
    simp only [List.drop_eq_getElem_cons hs]
    rw [← t1, show nxtM rs s - s - 1 = ((rs.drop (s + 1)).takeWhile (sameR rs[s])).length by omega]
   rw [er, ed]
   cases n with
   | zero => omega
   | succ n => rw [qgM rs n (nxtM rs s) (by omega)]
  ·rw [qgD rs (by omega), List.drop_of_length_le (by omega)]
   rfl
theorem qlN (rs : List Rc) : (segs rs).map (runR rs) = grp rs := by rw [← qjO, qgM rs rs.length 0 (by omega)]; rfl
structure St where
 owner : Nm
 ty : Int
 ttl : Nat
 data : List Dat
def belM (o : Nm) (t : Int) (r : Rc) : Bool := decide (r.data.ty = t) && sameN r.owner o
def belR (y r : Rc) : Bool := belM y.owner y.data.ty r
theorem qcZ (y : Rc) : belR y y = true := by simp [belR, belM, qdN]
def stR (y : Rc) (r : List Rc) : St := ⟨y.owner, y.data.ty, leastM y.ttl r, y.data :: r.map Rc.data⟩
def setsF : Nat → List Rc → List St
 | 0, _ => []
 | _, [] => []
 | n + 1, y :: r => stR y (r.takeWhile (belR y)) :: setsF n (r.dropWhile (belR y))
theorem qfn : ∀ (n m : Nat) (l : List Rc), l.length ≤ n → l.length ≤ m → setsF n l = setsF m l
 | 0, 0, l, _, _ => rfl
 | 0, m + 1, l, h, _ => by
  have : l = [] := List.eq_nil_of_length_eq_zero (by omega)
  subst this; rfl
 | n + 1, 0, l, _, h => by
  have : l = [] := List.eq_nil_of_length_eq_zero (by omega)
  subst this; rfl
 | n + 1, m + 1, [], _, _ => rfl
 | n + 1, m + 1, y :: r, h1, h2 => by
  have hl : (r.dropWhile (belR y)).length ≤ r.length := (List.dropWhile_sublist _).length_le
  simp only [List.length_cons] at h1 h2
  simp only [setsF]
  rw [qfn n m _ (by omega) (by omega)]
def setsM (l : List Rc) : List St := setsF l.length l
theorem qa0 (y : Rc) (r : List Rc) : setsM (y :: r) = stR y (r.takeWhile (belR y)) :: setsM (r.dropWhile (belR y)) := by
 have hl : (r.dropWhile (belR y)).length ≤ r.length := (List.dropWhile_sublist _).length_le
 unfold setsM
 simp only [List.length_cons, setsF]
 rw [qfn r.length _ _ hl (qN0)]
theorem qcs : setsM [] = [] := rfl
def nxtS (rs : List Rc) (s : Nat) : Nat := match rs.drop s with
 | [] => s + 1
 | y :: r => s + 1 + (r.takeWhile (belR y)).length
def segsH : Nat → Nat → List Rc → List (Nat × Nat)
 | 0, _, _ => []
 | f + 1, s, rs => if s < rs.length then (s, nxtS rs s) :: segsH f (nxtS rs s) rs else []
def segsS (rs : List Rc) : List (Nat × Nat) := segsH rs.length 0 rs
theorem qeK {rs : List Rc} {s : Nat} (hs : s < rs.length) : nxtS rs s = s + 1 + ((rs.drop (s + 1)).takeWhile (belR rs[s])).length := by
 unfold nxtS
 rw [List.drop_eq_getElem_cons hs]
theorem qcI {rs : List Rc} {s : Nat} (hs : s < rs.length) : s < nxtS rs s ∧ nxtS rs s ≤ rs.length := by
 rw [qeK hs]
 have := (qaX (p := belR rs[s]) (rs.drop (s + 1))).1
 rw [List.length_drop] at this
 omega
theorem qkv {rs : List Rc} {s e : Nat} (hs : s < rs.length) (h1 : s + 1 ≤ e) (h2 : e ≤ nxtS rs s) (he : e < rs.length) (hsame : belR rs[s] rs[e] = true) : e + 1 ≤ nxtS rs s := by
 rw [qeK hs] at h2 ⊢
 obtain ⟨t1, t2, t3⟩ := qaX (p := belR rs[s]) (rs.drop (s + 1))
 rcases Nat.lt_or_ge e (s + 1 + ((rs.drop (s + 1)).takeWhile (belR rs[s])).length) with h | h
 ·omega
 ·exfalso
  obtain ⟨j, rfl⟩ : ∃ j, e = s + 1 + j := ⟨e - (s + 1), by omega⟩
  have e1 : ((rs.drop (s + 1)).takeWhile (belR rs[s])).length = j := by omega
  have := t3 (by rw [List.length_drop]; omega)
  simp only [e1, List.getElem_drop] at this
  rw [hsame] at this; cases this
theorem qgC {rs : List Rc} {s e : Nat} (hs : s < rs.length) (h1 : s + 1 ≤ e) (h2 : e ≤ nxtS rs s) (h : e = rs.length ∨ ∃ he : e < rs.length, belR rs[s] rs[e] = false) : e = nxtS rs s := by
 have hn := qcI hs
 rcases h with h | ⟨he, h⟩
 ·omega
 ·rcases Nat.lt_or_ge e (nxtS rs s) with h3 | h3
  ·exfalso
   rw [qeK hs] at h3
   obtain ⟨t1, t2, t3⟩ := qaX (p := belR rs[s]) (rs.drop (s + 1))
   obtain ⟨j, rfl⟩ : ∃ j, e = s + 1 + j := ⟨e - (s + 1), by omega⟩
   have := t2 j (by omega) (by rw [List.length_drop]; omega)
   simp only [List.getElem_drop] at this
   rw [h] at this; cases this
  ·omega
theorem qdG (rs : List Rc) : ∀ (f s : Nat), rs.length - s ≤ f → segsH f s rs = segsH (rs.length - s) s rs
 | 0, s, h => by rw [show rs.length - s = 0 by omega]
 | f + 1, s, h => by
  by_cases hs : s < rs.length
  ·have hn := qcI hs
   obtain ⟨m, hm⟩ : ∃ m, rs.length - s = m + 1 := ⟨rs.length - s - 1, by omega⟩
   rw [hm]
   simp only [segsH, if_pos hs]
   rw [qdG rs f (nxtS rs s) (by omega), qdG rs m (nxtS rs s) (by omega)]
  ·rw [show rs.length - s = 0 by omega]
   simp only [segsH, if_neg hs]
def leftS (rs : List Rc) (s : Nat) : List (Nat × Nat) := segsH (rs.length - s) s rs
theorem qj1 (rs : List Rc) : leftS rs 0 = segsS rs := rfl
theorem qgE (rs : List Rc) {s : Nat} (h : rs.length ≤ s) : leftS rs s = [] := by unfold leftS; rw [show rs.length - s = 0 by omega]; rfl
theorem qb1 {rs : List Rc} {s : Nat} (hs : s < rs.length) : leftS rs s = (s, nxtS rs s) :: leftS rs (nxtS rs s) := by
 have hn := qcI hs
 obtain ⟨m, hm⟩ : ∃ m, rs.length - s = m + 1 := ⟨rs.length - s - 1, by omega⟩
 unfold leftS
 rw [hm]
 simp only [segsH, if_pos hs]
 rw [qdG rs m (nxtS rs s) (by omega)]
def setR (rs : List Rc) (x : Nat × Nat) : St := match rs.drop x.1 with
 | [] => ⟨[], 0, 0, []⟩
 | y :: r => stR y (r.take (x.2 - x.1 - 1))
theorem qfJ (rs : List Rc) : ∀ (n s : Nat), rs.length - s ≤ n → (leftS rs s).map (setR rs) = setsM (rs.drop s)
 | n, s, h => by
  by_cases hs : s < rs.length
  ·have hn := qcI hs
   have e1 := qeK hs
   obtain ⟨t1, t2⟩ := qcf (belR rs[s]) (rs.drop (s + 1))
   rw [qb1 hs, List.map_cons, List.drop_eq_getElem_cons hs, qa0]
   have ed : (rs.drop (s + 1)).dropWhile (belR rs[s]) = rs.drop (nxtS rs s) := by rw [← t2, List.drop_drop, e1]
   have er : setR rs (s, nxtS rs s) = stR rs[s] ((rs.drop (s + 1)).takeWhile (belR rs[s])) := by
    unfold setR
    simp only [List.drop_eq_getElem_cons hs]
    rw [← t1, show nxtS rs s - s - 1 = ((rs.drop (s + 1)).takeWhile (belR rs[s])).length by omega]
   rw [er, ed]
   cases n with
   | zero => omega
   | succ n => rw [qfJ rs n (nxtS rs s) (by omega)]
  ·rw [qgE rs (by omega), List.drop_of_length_le (by omega)]
   rfl
theorem qgH (rs : List Rc) : (segsS rs).map (setR rs) = setsM rs := by rw [← qj1, qfJ rs rs.length 0 (by omega)]; rfl
end Go.Proofs.YtckammgnmgkieaaGreat
namespace Go.Proofs.YtckammgnmgkieaaGreat
set_option linter.unusedVariables false
set_option linter.unusedSimpArgs false
set_option maxRecDepth 20000
open Go.RowKit Go.Shelf Go.Sort
open Stb (COrd Lx Rise)
theorem qcD {α : Type} {R : α → α → Prop} (ht : ∀ x y z, R x y → R y z → R x z) (hi : ∀ x, ¬ R x x) : ∀ (a b : List α), a.Perm b → a.Pairwise R → b.Pairwise R → a = b
 | [], b, hp, _, _ => (List.nil_perm.1 hp).symm
 | x :: a, [], hp, _, _ => by have := hp.length_eq; simp at this
 | x :: a, y :: b, hp, h1, h2 => by
  have p1 := List.pairwise_cons.1 h1
  have p2 := List.pairwise_cons.1 h2
  have e : x = y := by
   have hx : x ∈ y :: b := hp.mem_iff.1 (by simp)
   have hy : y ∈ x :: a := hp.mem_iff.2 (by simp)
   rcases List.mem_cons.1 hx with h | h
   ·exact h
   ·rcases List.mem_cons.1 hy with g | g
    ·exact g.symm
    ·exact absurd (ht _ _ _ (p1.1 y g) (p2.1 x h)) (hi x)
  subst e
  rw [qcD ht hi a b (List.Perm.cons_inv hp) p1.2 p2.2]
section
variable {α : Type} [Inhabited α] (rc : α → Rc) (tg : α → Nat)
def insT : List α → α → List α
 | [], x => [x]
 | y :: r, x => if qac (rc y) (rc x) ≤ 0 then y :: insT r x else x :: y :: r
def sortT (l : List α) : List α := l.foldl (insT rc) []
omit [Inhabited α] in
theorem qid : ∀ (l : List α) (x : α), (insT rc l x).map rc = insS (l.map rc) (rc x)
 | [], x => rfl
 | y :: r, x => by
  simp only [insT, insS, List.map_cons]
  split
  ·rw [List.map_cons, qid r x]
  ·rfl
omit [Inhabited α] in
theorem qku (l : List α) : (sortT rc l).map rc = sortM (l.map rc) := by
 unfold sortT sortM
 suffices ∀ (l a : List α) (b : List Rc), a.map rc = b → (l.foldl (insT rc) a).map rc = (l.map rc).foldl insS b from this l [] [] rfl
 intro l
 induction l with
 | nil => intro a b h; exact h
 | cons x l ih => intro a b h; exact ih _ _ (by rw [qid, h])
omit [Inhabited α] in
theorem qc3 : ∀ (l : List α) (x : α), (insT rc l x).Perm (x :: l)
 | [], x => List.Perm.refl _
 | y :: r, x => by
  simp only [insT]
  split
  ·exact ((qc3 r x).cons y).trans (List.Perm.swap x y r)
  ·exact List.Perm.refl _
def cfR (x y : α) : Int := qac (rc x) (rc y)
omit [Inhabited α] in
theorem qcP : COrd (cfR rc) := qaV cord_compareR rc
omit [Inhabited α] in
theorem qfL : ∀ (l : List α) (x : α), l.Pairwise (Lx (cfR rc) tg) → (∀ y ∈ l, tg y < tg x) → (insT rc l x).Pairwise (Lx (cfR rc) tg)
 | [], x, _, _ => by simp [insT]
 | y :: r, x, h, ht => by
  have p := List.pairwise_cons.1 h
  simp only [insT]
  split
  ·rename_i c
   have hyx : Lx (cfR rc) tg y x := by
    have := ht y (by simp)
    unfold Lx cfR; omega
   refine List.pairwise_cons.2 ⟨fun z hz => ?_, qfL r x p.2 (fun y hy => ht y (by simp [hy]))⟩
   rcases List.mem_cons.1 ((qc3 rc r x).mem_iff.1 hz) with rfl | hz
   ·exact hyx
   ·exact p.1 z hz
  ·rename_i c
   have hxy : Lx (cfR rc) tg x y := by
    have := (qcP rc).anti x y
    unfold Lx; unfold cfR at *; omega
   refine List.pairwise_cons.2 ⟨fun z hz => ?_, h⟩
   rcases List.mem_cons.1 hz with rfl | hz
   ·exact hxy
   ·exact hxy.trans (qcP rc) (p.1 z hz)
omit [Inhabited α] in
theorem qi4 (l : List α) (ht : l.Pairwise fun a b => tg a < tg b) : (sortT rc l).Pairwise (Lx (cfR rc) tg) ∧ (sortT rc l).Perm l := by
 unfold sortT
 suffices ∀ (l a : List α), a.Pairwise (Lx (cfR rc) tg) → (∀ x ∈ l, ∀ y ∈ a, tg y < tg x) → l.Pairwise (fun a b => tg a < tg b) → (l.foldl (insT rc) a).Pairwise (Lx (cfR rc) tg) ∧ (l.foldl (insT rc) a).Perm (l ++ a) from by
  have := this l [] List.Pairwise.nil (by simp) ht
  simpa using this
 intro l
 induction l with
 | nil => intro a h _ _; exact ⟨h, List.Perm.refl _⟩
 | cons x l ih =>
  intro a h h2 h3
  have p := List.pairwise_cons.1 h3
  have := ih (insT rc a x) (qfL rc tg a x h (h2 x (by simp))) (fun z hz y hy => by
   rcases List.mem_cons.1 ((qc3 rc a x).mem_iff.1 hy) with rfl | hy
   ·exact p.1 z hz
   ·exact h2 z (by simp [hz]) y hy) p.2
  refine ⟨this.1, this.2.trans ?_⟩
  exact ((qc3 rc a x).append_left l).trans (List.perm_middle)
end
theorem qcH {α : Type} [Inhabited α] (x : Array α) (i : Nat) (h : i < x.toList.length) : x[i]! = x.toList[i] := by
 have h' : i < x.size := by simpa using h
 rw [getElem!_pos x i h', Array.getElem_toList]
theorem qe2 {α : Type} (x : Array α) (n : Nat) (h : x.size = n) : (x.extract 0 n).toList = x.toList := by
 subst h; simp
theorem qkR {α : Type} [Inhabited α] (rc : α → Rc) (tg : α → Nat) {d d' : Array α} (ht : ∀ i, i < d.size → tg d[i]! = i) (hp : PermIn 0 d.size d d') (hr : Rise (cfR rc) tg 0 d.size d') : d'.toList.map rc = sortM (d.toList.map rc) := by
 obtain ⟨hs, _, h1⟩ := hp
 rw [qe2 d' d.size hs, qe2 d d.size rfl] at h1
 have h2 : d'.toList.Pairwise (Lx (cfR rc) tg) := by
  refine List.pairwise_iff_getElem.2 ?_
  intro i j hi hj hij
  have h := hr i j (Nat.zero_le _) hij (by rw [← hs]; simpa using hj)
  rw [qcH d' i hi, qcH d' j hj] at h
  exact h
 have h3 : d.toList.Pairwise fun a b => tg a < tg b := by
  refine List.pairwise_iff_getElem.2 ?_
  intro i j hi hj hij
  have e1 := ht i (by simpa using hi)
  have e2 := ht j (by simpa using hj)
  rw [qcH d i hi] at e1
  rw [qcH d j hj] at e2
  omega
 obtain ⟨h4, h5⟩ := qi4 rc tg d.toList h3
 have h6 := qcD (R := Lx (cfR rc) tg) (fun _ _ _ a b => Lx.trans (qcP rc) a b) (fun x => Lx.irrefl (qcP rc) x) d'.toList (sortT rc d.toList) (h1.trans h5.symm) h2 h4
 rw [← qku, h6]
end Go.Proofs.YtckammgnmgkieaaGreat
namespace Go.Proofs.YtckammgnmgkieaaGreat
set_option linter.unusedVariables false
set_option linter.unusedSimpArgs false
set_option maxRecDepth 20000
open Go.RowKit Go.Shelf
abbrev SlV := Option Addr × Nat × Nat
def slEnc (x : SlV) : Value := .slice x.1 x.2.1 x.2.2
theorem qgB (x : SlV) : (slEnc x).oneCell' = true := rfl
theorem qgx : ElemT 24 42 24 := ⟨Tryz.underlying42, _, _, rfl, rfl, rfl, rfl, rfl⟩
theorem OwnG.apart {α β : Type} {T T' : TypeId} {enc : α → Value} {enc' : β → Value} {W : World} {base base' : Nat} {v v' : Value} {xs : List α} {ys : List β} (h : OwnG T enc W base v xs) (h' : OwnG T' enc' W base' v' ys) (hT : T ≠ T') : v.ownBlock = none ∨ v.ownBlock ≠ v'.ownBlock := by
 rcases h.2 with ⟨rfl, _⟩ | ⟨g, cap, cur, rfl, _, hg, _⟩
 ·left; rfl
 ·right
  intro e
  exact h'.ne_block hg hT e
theorem OwnG.kept2 {α β : Type} {T T' : TypeId} {enc : α → Value} {enc' : β → Value} {W W' : World} {base base' : Nat} {v v' : Value} {xs : List α} {ys : List β} (h : OwnG T enc W base v xs) (h' : OwnG T' enc' W base' v' ys) (hT : T ≠ T') (hg : W.grownBy W' v'.ownBlock) : OwnG T enc W' base v xs :=
 h.kept hg (h.apart h' hT)
theorem qaj {W : World} {B : Nat} {cs : Array Value} {t : TypeId} (h : W.heap[B]? = some (.cells cs t)) (j : Nat) (v : Value) : (W.setCell ⟨B, j, none⟩ v).heap[B]? = some (.cells (cs.setIfInBounds j v) t) := by
 obtain ⟨hlt, hk⟩ := Array.getElem?_eq_some_iff.1 h
 show (W.heap.modify B _)[B]? = _
 rw [Array.getElem?_eq_getElem (by rw [Array.size_modify]; exact hlt), Array.getElem_modify_self, hk]
 rfl
theorem qah (W : World) (b j : Nat) (v : Value) : W.grownBy (W.setCell ⟨b, j, none⟩ v) (some b) :=
 ⟨rfl, rfl, rfl, (KeepsWalks.setCell W _ v).size, fun k _ hk => Below.heap_setCell _ _ _ k (fun e => hk (by rw [e]))⟩
theorem OwnG.keptB {α : Type} {T : TypeId} {enc : α → Value} {W : World} {base : Nat} {v : Value} {xs : List α} (h : OwnG T enc W base v xs) {B : Nat} {cs : Array Value} {t : TypeId} (hB : W.heap[B]? = some (.cells cs t)) (ht : t ≠ T) (j : Nat) (u : Value) : OwnG T enc (W.setCell ⟨B, j, none⟩ u) base v xs :=
 h.kept (qah W B j u) (.inr (fun e => h.ne_block hB ht e.symm))
theorem qbf {W : World} {B : Nat} {cs : Array Value} {t : TypeId} (h : W.heap[B]? = some (.cells cs t)) (j : Nat) : W.frozen? ⟨B, j, none⟩ = false := by simp [World.frozen?, h]
theorem qcg {W : World} {B : Nat} {o : Obj} (h : W.heap[B]? = some o) : B < W.heap.size := (Array.getElem?_eq_some_iff.1 h).1
def OwnNms (W : World) (base : Nat) (v : Value) (ns : List Nm) : Prop := ∃ vs : List SlV, OwnG 24 slEnc W base v vs ∧ vs.length = ns.length ∧ ∀ j (h1 : j < vs.length) (h2 : j < ns.length), OwnG 9 strV W base (slEnc vs[j]) ns[j]
theorem OwnNms.below {W W' : World} {base : Nat} {v : Value} {ns : List Nm} (h : OwnNms W base v ns) (hb : Below W.heap.size W W') : OwnNms W' base v ns := by
 obtain ⟨vs, h1, h2, h3⟩ := h
 exact ⟨vs, h1.below hb, h2, fun j a b => (h3 j a b).below hb⟩
theorem OwnNms.nms {W : World} {base : Nat} {v : Value} {ns : List Nm} (h : OwnNms W base v ns) : NmsAt W v ns := by
 obtain ⟨vs, h1, h2, h3⟩ := h
 refine ⟨vs.map slEnc, SlAt.of_own h1, by rw [List.length_map]; exact h2, fun j hj => ?_⟩
 rw [List.getElem_map]
 exact (h3 j (by simpa using hj) (by rw [List.length_map] at hj; omega)).nmAt
theorem OwnNms.nil (W : World) (base : Nat) : OwnNms W base (.slice none 0 0) [] := ⟨[], OwnG.nil _ _, rfl, fun j h => by simp at h⟩
def DRow (W : World) (base : Nat) (vn vu vt vr : Value) (d : Dat) : Prop := OwnNms W base vn d.names ∧ OwnG 35 u32V W base vu d.nums ∧ OwnG 9 strV W base vt d.texts ∧ OwnG 5 bv W base vr d.raw
def DBox (W : World) (B base : Nat) (d : Dat) : Prop := ∃ vn vu vt vr, W.heap[B]? = some (.cells #[.int .i64 d.ty, vn, vu, vt, vr] 101) ∧ DRow W base vn vu vt vr d
theorem DRow.below {W W' : World} {base : Nat} {vn vu vt vr : Value} {d : Dat} (h : DRow W base vn vu vt vr d) (hb : Below W.heap.size W W') : DRow W' base vn vu vt vr d :=
 ⟨h.1.below hb, h.2.1.below hb, h.2.2.1.below hb, h.2.2.2.below hb⟩
theorem DRow.datAt {W : World} {base : Nat} {vn vu vt vr : Value} {d : Dat} (h : DRow W base vn vu vt vr d) : DatAt W (.agg #[.int .i64 d.ty, vn, vu, vt, vr]) d :=
 ⟨vn, vu, vt, vr, rfl, h.1.nms, SlAt.of_own h.2.1, h.2.2.1.nmAt, SlAt.of_own h.2.2.2⟩
theorem DBox.below {W W' : World} {B base : Nat} {d : Dat} (h : DBox W B base d) (hb : Below W.heap.size W W') : DBox W' B base d := by
 obtain ⟨vn, vu, vt, vr, h1, h2⟩ := h
 exact ⟨vn, vu, vt, vr, (hb.block B (qcg h1)).trans h1, h2.below hb⟩
theorem OwnNms.keptB {W : World} {base : Nat} {v : Value} {ns : List Nm} (h : OwnNms W base v ns) {B : Nat} {cs : Array Value} (hB : W.heap[B]? = some (.cells cs 101)) (j : Nat) (u : Value) : OwnNms (W.setCell ⟨B, j, none⟩ u) base v ns := by
 obtain ⟨vs, h1, h2, h3⟩ := h
 exact ⟨vs, h1.keptB hB (by decide) j u, h2, fun i a b => (h3 i a b).keptB hB (by decide) j u⟩
theorem OwnNms.kept2 {β : Type} {T' : TypeId} {enc' : β → Value} {W W' : World} {base base' : Nat} {v v' : Value} {ns : List Nm} {ys : List β} (h : OwnNms W base v ns) (h' : OwnG T' enc' W base' v' ys) (hT : 24 ≠ T') (hS : 9 ≠ T') (hg : W.grownBy W' v'.ownBlock) : OwnNms W' base v ns := by
 obtain ⟨vs, h1, h2, h3⟩ := h
 exact ⟨vs, h1.kept2 h' hT hg, h2, fun i a b => (h3 i a b).kept2 h' hS hg⟩
theorem DRow.set {W : World} {B base : Nat} {cs : Array Value} {vn vu vt vr : Value} {d : Dat} (h : DRow W base vn vu vt vr d) (hB : W.heap[B]? = some (.cells cs 101)) (j : Nat) (u : Value) : DRow (W.setCell ⟨B, j, none⟩ u) base vn vu vt vr d :=
 ⟨h.1.keptB hB j u, h.2.1.keptB hB (by decide) j u, h.2.2.1.keptB hB (by decide) j u, h.2.2.2.keptB hB (by decide) j u⟩
def KeepW (B : Nat) (w w' : World) : Prop := ∀ (b : Nat) (cs : Array Value), b ≠ B → w.heap[b]? = some (Obj.cells cs 101) → w'.heap[b]? = some (Obj.cells cs 101)
theorem KeepW.refl (B : Nat) (w : World) : KeepW B w w := by intro x cs _ e; exact e
theorem KeepW.trans {B : Nat} {a b c : World} (h : KeepW B a b) (k : KeepW B b c) : KeepW B a c := by intro x cs n e; exact k x cs n (h x cs n e)
theorem KeepW.below {B : Nat} {w w' : World} (h : Below w.heap.size w w') : KeepW B w w' := by intro b cs _ e; exact (h.block b (qcg e)).trans e
theorem KeepW.grown {B : Nat} {α : Type} {T : TypeId} {enc : α → Value} {w w' : World} {base : Nat} {v : Value} {xs : List α} (h : OwnG T enc w base v xs) (hT : 101 ≠ T) (hg : w.grownBy w' v.ownBlock) : KeepW B w w' := by
 intro b cs _ e; exact (hg.block b (qcg e) (h.ne_block e hT)).trans e
theorem KeepW.set {w : World} {B : Nat} (j : Nat) (u : Value) : KeepW B w (w.setCell ⟨B, j, none⟩ u) := by
 intro b cs2 hb e
 exact ((qah w B j u).block b (qcg e) (fun h => hb (by simpa using h))).trans e
def set5 (W : World) (R : Nat) (x0 x1 x2 x3 x4 : Value) : World := ((((W.setCell ⟨R, 0, none⟩ x0).setCell ⟨R, 1, none⟩ x1).setCell ⟨R, 2, none⟩ x2).setCell ⟨R, 3, none⟩ x3).setCell ⟨R, 4, none⟩ x4
theorem qke {w W : World} {R : Nat} (hb : Below R w W) (x0 x1 x2 x3 x4 : Value) : Below R w (set5 W R x0 x1 x2 x3 x4) :=
 ((((hb.setCell (p := ⟨R, 0, none⟩) (qN0) x0).setCell (p := ⟨R, 1, none⟩) (qN0) x1).setCell (p := ⟨R, 2, none⟩) (qN0) x2).setCell (p := ⟨R, 3, none⟩) (qN0) x3).setCell (p := ⟨R, 4, none⟩) (qN0) x4
end Go.Proofs.YtckammgnmgkieaaGreat
