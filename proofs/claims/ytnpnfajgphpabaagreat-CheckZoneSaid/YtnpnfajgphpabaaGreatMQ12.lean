import Derived.Sort.QuietTacIn
import Derived.Sort.BigQuietIn
import Derived.Lib.ItoaNum
import Derived.Lib.ItoaMem
import Derived.Test.YtnpnfajgphpabaaGreatMQ30
namespace Go.Proofs.YtnpnfajgphpabaaGreat
set_option maxRecDepth 20000
open Go.RowKit Go.Shelf
open Stb (COrd)
def StrictR (l : List Rc) : Prop := l.Pairwise fun a b => qab a b < 0
structure CanOf (l c : List Rc) : Prop where
 up : StrictR c
 has : ∀ x ∈ l, ∃ y ∈ c, qab y x = 0 ∧ y.ttl ≤ x.ttl
 of : ∀ y ∈ c, ∃ x ∈ l, qab x y = 0 ∧ x.ttl = y.ttl
theorem qaX (x y : Rc) : qab y x = - qab x y := cord_compareR.anti x y
theorem qj5 {x y z : Rc} (h1 : qab x y < 0) (h2 : qab y z ≤ 0) : qab x z < 0 := by
 have a := qaX x z; have b := qaX x y
 have t := cord_compareR.trans y z x h2
 have := cord_compareR.trans x y z (by omega) h2
 by_cases c : qab x z < 0
 ·exact c
 ·have := t (by omega); omega
theorem qkC {x y z : Rc} (h1 : qab x y ≤ 0) (h2 : qab y z < 0) : qab x z < 0 := by
 have a := qaX x z; have b := qaX y z
 have t := cord_compareR.trans z x y
 have := cord_compareR.trans x y z h1 (by omega)
 by_cases c : qab x z < 0
 ·exact c
 ·have := t (by omega) h1; omega
theorem cR_eq {x y z : Rc} (h1 : qab x y = 0) (h2 : qab y z = 0) : qab x z = 0 := by
 have a := qaX x z; have b := qaX y z; have c := qaX x y
 have t1 := cord_compareR.trans x y z (by omega) (by omega)
 have t2 := cord_compareR.trans z y x (by omega) (by omega)
 omega
theorem cR_sym {x y : Rc} (h : qab x y = 0) : qab y x = 0 := by have := qaX x y; omega
theorem qhN (a b : Nat) : minT a b ≤ a ∧ minT a b ≤ b ∧ (minT a b = a ∨ minT a b = b) := by
 unfold minT; split <;> omega
theorem qhT {x : Rc} : ∀ (l : List Rc), StrictR l → ∀ z, qab z x < 0 → (∀ y ∈ l, qab z y < 0) → ∀ y ∈ insR l x, qab z y < 0
 | [], _, z, h, _, y, hy => by simp [insR] at hy; subst hy; exact h
 | a :: r, hs, z, h, h2, y, hy => by
  have p := List.pairwise_cons.1 hs
  simp only [insR] at hy
  split at hy
  ·rcases List.mem_cons.1 hy with rfl | hy
   ·exact h2 y (by simp)
   ·exact qhT r p.2 z h (fun y hy => h2 y (by simp [hy])) y hy
  ·split at hy
   ·rcases List.mem_cons.1 hy with rfl | hy
    ·exact h2 a (by simp)
    ·exact h2 y (by simp [hy])
   ·rcases List.mem_cons.1 hy with rfl | hy
    ·exact h
    ·exact h2 y hy
theorem qd1 (x : Rc) : ∀ (l : List Rc), StrictR l → StrictR (insR l x)
 | [], _ => by simp [insR, StrictR]
 | a :: r, hs => by
  have p := List.pairwise_cons.1 hs
  simp only [insR]
  split
  ·rename_i c
   exact List.pairwise_cons.2 ⟨qhT r p.2 a c p.1, qd1 x r p.2⟩
  ·rename_i c
   split
   ·exact List.pairwise_cons.2 ⟨fun y hy => p.1 y hy, p.2⟩
   ·rename_i c2
    have hx : qab x a < 0 := by have := qaX x a; omega
    refine List.pairwise_cons.2 ⟨fun y hy => ?_, hs⟩
    rcases List.mem_cons.1 hy with rfl | hy
    ·exact hx
    ·exact qj5 hx (by have := p.1 y hy; omega)
theorem qen (x : Rc) : ∀ (l : List Rc), (∃ y ∈ insR l x, qab y x = 0 ∧ y.ttl ≤ x.ttl) ∧ ∀ a ∈ l, ∃ y ∈ insR l x, qab y a = 0 ∧ y.ttl ≤ a.ttl
 | [] => ⟨⟨x, by simp [insR], qav x, qN0⟩, by simp⟩
 | a :: r => by
  obtain ⟨⟨y, hy, h1⟩, h2⟩ := qen x r
  simp only [insR]
  split
  ·refine ⟨⟨y, by simp [hy], h1⟩, fun b hb => ?_⟩
   rcases List.mem_cons.1 hb with rfl | hb
   ·exact ⟨b, by simp, qav b, qN0⟩
   ·obtain ⟨z, hz, h⟩ := h2 b hb
    exact ⟨z, by simp [hz], h⟩
  ·have m := qhN a.ttl x.ttl
   split
   ·rename_i c
    refine ⟨⟨_, List.mem_cons_self .., c, m.2.1⟩, fun b hb => ?_⟩
    rcases List.mem_cons.1 hb with rfl | hb
    ·exact ⟨_, List.mem_cons_self .., qav b, m.1⟩
    ·exact ⟨b, by simp [hb], qav b, qN0⟩
   ·exact ⟨⟨x, by simp, qav x, qN0⟩, fun b hb => ⟨b, by simp only [List.mem_cons] at hb ⊢; exact Or.inr hb, qav b, qN0⟩⟩
theorem qhL (x : Rc) : ∀ (l : List Rc), ∀ y ∈ insR l x, ∃ a, (a = x ∨ a ∈ l) ∧ qab a y = 0 ∧ a.ttl = y.ttl
 | [], y, hy => by simp [insR] at hy; subst hy; exact ⟨y, .inl rfl, qav y, rfl⟩
 | a :: r, y, hy => by
  simp only [insR] at hy
  split at hy
  ·rcases List.mem_cons.1 hy with rfl | hy
   ·exact ⟨y, .inr (by simp), qav y, rfl⟩
   ·obtain ⟨b, hb, h⟩ := qhL x r y hy
    exact ⟨b, hb.imp id (fun h => by simp [h]), h⟩
  ·split at hy
   ·rename_i c
    rcases List.mem_cons.1 hy with rfl | hy
    ·rcases (qhN a.ttl x.ttl).2.2 with e | e
     ·exact ⟨a, .inr (by simp), qav a, e.symm⟩
     ·exact ⟨x, .inl rfl, cR_sym c, e.symm⟩
    ·exact ⟨y, .inr (by simp [hy]), qav y, rfl⟩
   ·simp only [List.mem_cons] at hy
    exact ⟨y, hy.imp id (fun h => by simpa using h), qav y, rfl⟩
theorem qd4 (x : Rc) : ∀ (l : List Rc), (insR l x).length ≤ l.length + 1 ∧ l.length ≤ (insR l x).length
 | [] => by simp [insR]
 | a :: r => by
  have := qd4 x r
  simp only [insR]
  repeat' split
  all_goals simp only [List.length_cons]; omega
theorem CanOf.step {l c : List Rc} (h : CanOf l c) (x : Rc) : CanOf (l ++ [x]) (insR c x) := by
 refine ⟨qd1 x c h.up, fun a ha => ?_, fun y hy => ?_⟩
 ·rcases List.mem_append.1 ha with ha | ha
  ·obtain ⟨y, hy, h1, h2⟩ := h.has a ha
   obtain ⟨z, hz, g1, g2⟩ := (qen x c).2 y hy
   exact ⟨z, hz, cR_eq g1 h1, Nat.le_trans g2 h2⟩
  ·simp at ha; subst ha
   exact (qen a c).1
 ·obtain ⟨a, ha, h1, h2⟩ := qhL x c y hy
  rcases ha with rfl | ha
  ·exact ⟨a, by simp, h1, h2⟩
  ·obtain ⟨b, hb, g1, g2⟩ := h.of a ha
   exact ⟨b, by simp [hb], cR_eq g1 h1, by omega⟩
theorem qaW (l : List Rc) (x : Rc) : canonM (l ++ [x]) = insR (canonM l) x := by simp [canonM, List.foldl_append]
theorem qaV {α : Type} {P : List α → Prop} (h0 : P []) (hs : ∀ l x, P l → P (l ++ [x])) (l : List α) : P l := by
 have : ∀ l : List α, P l.reverse := by
  intro l
  induction l with
  | nil => exact h0
  | cons x l ih => rw [List.reverse_cons]; exact hs _ _ ih
 have := this l.reverse
 rwa [List.reverse_reverse] at this
theorem qa1 (l : List Rc) : CanOf l (canonM l) :=
 qaV (P := fun l => CanOf l (canonM l)) ⟨List.Pairwise.nil, by simp, by simp [canonM]⟩ (fun l x h => by rw [qaW]; exact h.step x) l
theorem qaD (l : List Rc) : (canonM l).length ≤ l.length :=
 qaV (P := fun l => (canonM l).length ≤ l.length) (by simp [canonM]) (fun l x h => by rw [qaW]; have := qd4 x (canonM l); simp; omega) l
theorem qf0 (x : Rc) : ∀ (l : List Rc), (∀ y ∈ l, qab y x < 0) → insR l x = l ++ [x]
 | [], _ => rfl
 | a :: r, h => by
  simp only [insR, if_pos (h a (by simp))]
  rw [qf0 x r (fun y hy => h y (by simp [hy]))]
  rfl
theorem qcc (l : List Rc) : StrictR l → canonM l = l :=
 qaV (P := fun l => StrictR l → canonM l = l) (fun _ => rfl) (fun l x ih h => by
  have h' := List.pairwise_append.1 h
  rw [qaW, ih h'.1, qf0 x l (fun y hy => h'.2.2 y hy x (by simp))]) l
def Covers (l m : List Rc) : Prop := ∀ x ∈ m, ∃ y ∈ l, qab y x = 0 ∧ y.ttl ≤ x.ttl
theorem StrictR.one {c : List Rc} : StrictR c → ∀ {y z : Rc}, y ∈ c → z ∈ c → qab y z = 0 → y = z := by
 intro h
 induction c with
 | nil => intro y z hy; cases hy
 | cons a c ih =>
  intro y z hy hz hc
  have p := List.pairwise_cons.1 h
  rcases List.mem_cons.1 hy with ey | hy'
  ·rcases List.mem_cons.1 hz with ez | hz'
   ·rw [ey, ez]
   ·have := p.1 z hz'; rw [ey] at hc; omega
  ·rcases List.mem_cons.1 hz with ez | hz'
   ·have := p.1 y hy'; have := qaX y z; rw [ez] at hc this; omega
   ·exact ih p.2 hy' hz' hc
theorem qdA (l : List Rc) : Covers (canonM l) l := (qa1 l).has
end Go.Proofs.YtnpnfajgphpabaaGreat
namespace Go.Proofs.YtnpnfajgphpabaaGreat
set_option maxRecDepth 20000
open Go.RowKit Go.Shelf Go.Sort
open Stb (COrd Lx Rise)
theorem qcd {α : Type} {R : α → α → Prop} (ht : ∀ x y z, R x y → R y z → R x z) (hi : ∀ x, ¬ R x x) : ∀ (a b : List α), a.Perm b → a.Pairwise R → b.Pairwise R → a = b
 | [], b, hp, _, _ => (List.nil_perm.1 hp).symm
 | x :: a, [], hp, _, _ => by have := hp.length_eq; simp at this
 | x :: a, y :: b, hp, h1, h2 => by
  have p1 := List.pairwise_cons.1 h1
  have p2 := List.pairwise_cons.1 h2
  have e : x = y := by
   have hx : x ∈ y :: b := hp.mem_iff.1 (by simp)
   have hy : y ∈ x :: a := hp.mem_iff.2 (by simp)
   rcases List.mem_cons.1 hx with h | h
   ·exact h
   ·rcases List.mem_cons.1 hy with g | g
    ·exact g.symm
    ·exact absurd (ht _ _ _ (p1.1 y g) (p2.1 x h)) (hi x)
  subst e
  rw [qcd ht hi a b (List.Perm.cons_inv hp) p1.2 p2.2]
section
variable {α : Type} [Inhabited α] (rc : α → Rc) (tg : α → Nat)
def insT : List α → α → List α
 | [], x => [x]
 | y :: r, x => if qab (rc y) (rc x) ≤ 0 then y :: insT r x else x :: y :: r
def sortT (l : List α) : List α := l.foldl (insT rc) []
omit [Inhabited α] in
theorem qgT : ∀ (l : List α) (x : α), (insT rc l x).map rc = insS (l.map rc) (rc x)
 | [], x => rfl
 | y :: r, x => by
  simp only [insT, insS, List.map_cons]
  split
  ·rw [List.map_cons, qgT r x]
  ·rfl
omit [Inhabited α] in
theorem qiS (l : List α) : (sortT rc l).map rc = sortM (l.map rc) := by
 unfold sortT sortM
 suffices ∀ (l a : List α) (b : List Rc), a.map rc = b → (l.foldl (insT rc) a).map rc = (l.map rc).foldl insS b from this l [] [] rfl
 intro l
 induction l with
 | nil => intro a b h; exact h
 | cons x l ih => intro a b h; exact ih _ _ (by rw [qgT, h])
omit [Inhabited α] in
theorem qct : ∀ (l : List α) (x : α), (insT rc l x).Perm (x :: l)
 | [], x => List.Perm.refl _
 | y :: r, x => by
  simp only [insT]
  split
  ·exact ((qct r x).cons y).trans (List.Perm.swap x y r)
  ·exact List.Perm.refl _
def cfR (x y : α) : Int := qab (rc x) (rc y)
omit [Inhabited α] in
theorem qcs : COrd (cfR rc) := qaH cord_compareR rc
omit [Inhabited α] in
theorem qeT : ∀ (l : List α) (x : α), l.Pairwise (Lx (cfR rc) tg) → (∀ y ∈ l, tg y < tg x) → (insT rc l x).Pairwise (Lx (cfR rc) tg)
 | [], x, _, _ => by simp [insT]
 | y :: r, x, h, ht => by
  have p := List.pairwise_cons.1 h
  simp only [insT]
  split
  ·rename_i c
   have hyx : Lx (cfR rc) tg y x := by
    have := ht y (by simp)
    unfold Lx cfR; omega
   refine List.pairwise_cons.2 ⟨fun z hz => ?_, qeT r x p.2 (fun y hy => ht y (by simp [hy]))⟩
   rcases List.mem_cons.1 ((qct rc r x).mem_iff.1 hz) with rfl | hz
   ·exact hyx
   ·exact p.1 z hz
  ·rename_i c
   have hxy : Lx (cfR rc) tg x y := by
    have := (qcs rc).anti x y
    unfold Lx; unfold cfR at *; omega
   refine List.pairwise_cons.2 ⟨fun z hz => ?_, h⟩
   rcases List.mem_cons.1 hz with rfl | hz
   ·exact hxy
   ·exact hxy.trans (qcs rc) (p.1 z hz)
omit [Inhabited α] in
theorem qhr (l : List α) (ht : l.Pairwise fun a b => tg a < tg b) : (sortT rc l).Pairwise (Lx (cfR rc) tg) ∧ (sortT rc l).Perm l := by
 unfold sortT
 suffices ∀ (l a : List α), a.Pairwise (Lx (cfR rc) tg) → (∀ x ∈ l, ∀ y ∈ a, tg y < tg x) → l.Pairwise (fun a b => tg a < tg b) → (l.foldl (insT rc) a).Pairwise (Lx (cfR rc) tg) ∧ (l.foldl (insT rc) a).Perm (l ++ a) from by
  have := this l [] List.Pairwise.nil (by simp) ht
  simpa using this
 intro l
 induction l with
 | nil => intro a h _ _; exact ⟨h, List.Perm.refl _⟩
 | cons x l ih =>
  intro a h h2 h3
  have p := List.pairwise_cons.1 h3
  have := ih (insT rc a x) (qeT rc tg a x h (h2 x (by simp))) (fun z hz y hy => by
   rcases List.mem_cons.1 ((qct rc a x).mem_iff.1 hy) with rfl | hy
   ·exact p.1 z hz
   ·exact h2 z (by simp [hz]) y hy) p.2
  refine ⟨this.1, this.2.trans ?_⟩
  exact ((qct rc a x).append_left l).trans (List.perm_middle)
end
theorem qcf {α : Type} [Inhabited α] (x : Array α) (i : Nat) (h : i < x.toList.length) : x[i]! = x.toList[i] := by
 have h' : i < x.size := by simpa using h
 rw [getElem!_pos x i h', Array.getElem_toList]
theorem qb0 {α : Type} (x : Array α) (n : Nat) (h : x.size = n) : (x.extract 0 n).toList = x.toList := by
 subst h; simp
theorem qiY {α : Type} [Inhabited α] (rc : α → Rc) (tg : α → Nat) {d d' : Array α} (ht : ∀ i, i < d.size → tg d[i]! = i) (hp : PermIn 0 d.size d d') (hr : Rise (cfR rc) tg 0 d.size d') : d'.toList.map rc = sortM (d.toList.map rc) := by
 obtain ⟨hs, _, h1⟩ := hp
 rw [qb0 d' d.size hs, qb0 d d.size rfl] at h1
 have h2 : d'.toList.Pairwise (Lx (cfR rc) tg) := by
  refine List.pairwise_iff_getElem.2 ?_
  intro i j hi hj hij
  have h := hr i j (Nat.zero_le _) hij (by rw [← hs]; simpa using hj)
  rw [qcf d' i hi, qcf d' j hj] at h
  exact h
 have h3 : d.toList.Pairwise fun a b => tg a < tg b := by
  refine List.pairwise_iff_getElem.2 ?_
  intro i j hi hj hij
  have e1 := ht i (by simpa using hi)
  have e2 := ht j (by simpa using hj)
  rw [qcf d i hi] at e1
  rw [qcf d j hj] at e2
  omega
 obtain ⟨h4, h5⟩ := qhr rc tg d.toList h3
 have h6 := qcd (R := Lx (cfR rc) tg) (fun _ _ _ a b => Lx.trans (qcs rc) a b) (fun x => Lx.irrefl (qcs rc) x) d'.toList (sortT rc d.toList) (h1.trans h5.symm) h2 h4
 rw [← qiS, h6]
end Go.Proofs.YtnpnfajgphpabaaGreat
namespace Go.Proofs.YtnpnfajgphpabaaGreat
set_option maxRecDepth 20000
set_option maxHeartbeats 2000000
open Go.RowKit Go.Shelf
theorem qbI {F : Fence} {n : Nat} {P : Program} {id : Nat} {Q : Exit → Act → World → Prop} {a : Act} {w : World} {l : List Oper} (C : World → Prop) (hro : F.round = none) (hm : P.follows .mixedOrders = true) (hB : Region.lexB .any l.toArray = true) (hC : C w.drew)
 (h : wpQuietIn F n P l.toArray (fun w' => ∃ p : WIn C, w' = p.w) (fun a' => ∀ w', (∃ p : WIn C, w' = p.w) → Q .normal a' w') l a) : (Code.region id l.toArray true).wpIn F n P Q a w :=
 wpIn_region_quiet (C := fun w' => ∃ p : WIn C, w' = p.w) hro hm hB ⟨⟨w.drew, hC⟩, rfl⟩ (by simpa using h)
theorem CallsIn.cls {F : Fence} {r : Nat} {C : World → Prop} {P : Program} {f : FuncId} {args : Array Value} {w : World} {v : Value}
 (h : CallsIn F r P f args w fun e w' => e = .returned v ∧ C w') : CallsIn F r P f args w fun e w'' => e = .returned v ∧ ∃ q : WIn C, w'' = q.w :=
 h.mono fun _ w' ⟨he, hc⟩ => ⟨he, ⟨w', hc⟩, rfl⟩
theorem qjb (a b : Int) (w : World) : Calls Tryz.prog 111 #[.int .i64 a, .int .i64 b] w fun e w' => e = .returned (.int .i64 (cmpI a b)) ∧ w' = w := by
 unfold cmpI
 by_cases h1 : a < b
 ·rw [if_pos h1]
  go_enter Tryz.func111, Tryz.ntmps111
  go_wp2
  go_ret
  exact ⟨rfl, rfl⟩
 ·rw [if_neg h1]
  by_cases h2 : b < a
  ·rw [if_pos h2]
   go_enter Tryz.func111, Tryz.ntmps111
   go_wp2
   go_ret
   exact ⟨rfl, rfl⟩
  ·rw [if_neg h2]
   go_enter Tryz.func111, Tryz.ntmps111
   go_wp2
   go_ret
   exact ⟨rfl, rfl⟩
def qaZ (t : Int) : Int × Int × Int :=
 if t = 1 then (0, 0, 4) else if t = 28 then (0, 0, 16) else if t = 2 ∨ t = 5 ∨ t = 12 ∨ t = 39 then (1, 0, 0) else if t = 15 then (1, 1, 0) else if t = 6 then (2, 5, 0) else if t = 16 then (0, 0, 0) else (0, 0, -1)
def qc5 (t : Int) (w : World) (e : Ending) (w' : World) : Prop := e = .returned (.tuple #[.int .i64 (qaZ t).1, .int .i64 (qaZ t).2.1, .int .i64 (qaZ t).2.2]) ∧ w' = w
theorem qio (t : Int) (w : World) : Calls Tryz.prog 95 #[.int .i64 t] w (qc5 t w) := by
 have lit : ∀ k : Int, t = k → ∀ c, qaZ k = c → Calls Tryz.prog 95 #[.int .i64 k] w (fun e w' => e = .returned (.tuple #[.int .i64 c.1, .int .i64 c.2.1, .int .i64 c.2.2]) ∧ w' = w) → Calls Tryz.prog 95 #[.int .i64 t] w (qc5 t w) := by
  rintro k rfl c rfl h; exact h
 by_cases h1 : t = 1
 ·refine lit _ h1 _ rfl ?_
  go_enter Tryz.func95, Tryz.ntmps95
  go_wp2
  go_ret3
  exact ⟨rfl, rfl⟩
 by_cases h2 : t = 28
 ·refine lit _ h2 _ rfl ?_
  go_enter Tryz.func95, Tryz.ntmps95
  go_wp2
  go_ret3
  exact ⟨rfl, rfl⟩
 by_cases h3 : t = 2
 ·refine lit _ h3 _ rfl ?_
  go_enter Tryz.func95, Tryz.ntmps95
  go_wp2
  go_ret3
  exact ⟨rfl, rfl⟩
 by_cases h4 : t = 5
 ·refine lit _ h4 _ rfl ?_
  go_enter Tryz.func95, Tryz.ntmps95
  go_wp2
  go_ret3
  exact ⟨rfl, rfl⟩
 by_cases h5 : t = 12
 ·refine lit _ h5 _ rfl ?_
  go_enter Tryz.func95, Tryz.ntmps95
  go_wp2
  go_ret3
  exact ⟨rfl, rfl⟩
 by_cases h6 : t = 39
 ·refine lit _ h6 _ rfl ?_
  go_enter Tryz.func95, Tryz.ntmps95
  go_wp2
  go_ret3
  exact ⟨rfl, rfl⟩
 by_cases h7 : t = 15
 ·refine lit _ h7 _ rfl ?_
  go_enter Tryz.func95, Tryz.ntmps95
  go_wp2
  go_ret3
  exact ⟨rfl, rfl⟩
 by_cases h8 : t = 6
 ·refine lit _ h8 _ rfl ?_
  go_enter Tryz.func95, Tryz.ntmps95
  go_wp2
  go_ret3
  exact ⟨rfl, rfl⟩
 by_cases h9 : t = 16
 ·refine lit _ h9 _ rfl ?_
  go_enter Tryz.func95, Tryz.ntmps95
  go_wp2
  go_ret3
  exact ⟨rfl, rfl⟩
 have hc : qaZ t = (0, 0, -1) := by
  unfold qaZ
  rw [if_neg h1, if_neg h2, if_neg (by omega), if_neg h7, if_neg h8, if_neg h9]
 have HC := qH0 hc; clear hc lit
 have e1 : (t == 1) = false := by simpa using h1
 have e2 : (t == 28) = false := by simpa using h2
 have e3 : (t == 2) = false := by simpa using h3
 have e4 : (t == 5) = false := by simpa using h4
 have e5 : (t == 12) = false := by simpa using h5
 have e6 : (t == 39) = false := by simpa using h6
 have e7 : (t == 15) = false := by simpa using h7
 have e8 : (t == 6) = false := by simpa using h8
 have e9 : (t == 16) = false := by simpa using h9
 clear h1 h2 h3 h4 h5 h6 h7 h8 h9
 go_enter Tryz.func95, Tryz.ntmps95
 go_wp2
 go_ret3
 exact ⟨by rw [HC.out]; rfl, rfl⟩
def typeT (j : Nat) : Int := [1, 2, 5, 6, 12, 15, 16, 28, 39].getD j 0
def typeS (j : Nat) : List UInt8 := ([[65], [78, 83], [67, 78, 65, 77, 69], [83, 79, 65], [80, 84, 82], [77, 88], [84, 88, 84], [65, 65, 65, 65], [68, 78, 65, 77, 69]] : List (List UInt8)).getD j []
end Go.Proofs.YtnpnfajgphpabaaGreat
namespace Go.Proofs.YtnpnfajgphpabaaGreat
set_option maxRecDepth 20000
open Go.RowKit Go.Shelf
def NRow (g : Nat) (W : World) : Prop := g < W.heap.size ∧ ∀ j, j < 9 → W.cell? ⟨g, j * 2, none⟩ = some (.int .i64 (typeT j)) ∧ W.cell? ⟨g, j * 2 + 1, none⟩ = some (strV (typeS j))
theorem NRow.below {g : Nat} {W W' : World} (h : NRow g W) (hb : Below W.heap.size W W') : NRow g W' := ⟨Nat.lt_of_lt_of_le h.1 hb.size, fun j hj =>
 ⟨(hb.cell (p := ⟨g, j * 2, none⟩) h.1).trans (h.2 j hj).1, (hb.cell (p := ⟨g, j * 2 + 1, none⟩) h.1).trans (h.2 j hj).2⟩⟩
def KeepT (b g : Nat) (W W' : World) : Prop := KeepB b W W' ∧ KeepB g W W'
theorem KeepT.refl (b g : Nat) (W : World) : KeepT b g W W := ⟨rfl, rfl⟩
theorem KeepB.lt {b : Nat} {A B : World} (h : KeepB b A B) (hb : b < A.heap.size) : b < B.heap.size := by
 rcases Nat.lt_or_ge b B.heap.size with h' | h'
 ·exact h'
 ·unfold KeepB at h; rw [Array.getElem?_eq_none h', Array.getElem?_eq_getElem hb] at h; cases h
section
attribute [local go_sem] Oper.semAt_some
end
end Go.Proofs.YtnpnfajgphpabaaGreat
namespace Go.Proofs.YtnpnfajgphpabaaGreat
set_option maxRecDepth 20000
open Go.RowKit Go.Shelf
section
variable (f : List UInt8 → List UInt8 × Nat × Int)
variable {f}
end
abbrev Wd := List UInt8 × Bool
def qbm (d : Dat) : Bool := decide (d.names.length = (qaZ d.ty).1 ∧ d.nums.length = (qaZ d.ty).2.1 ∧ (if d.ty = 16 then 1 ≤ d.texts.length ∧ d.texts.length ≤ 32 else d.texts.length = 0) ∧ (0 ≤ (qaZ d.ty).2.2 → (d.raw.length : Int) = (qaZ d.ty).2.2))
def qax : List Nm → Int
 | [] => 0
 | n :: r => if checkN n = 0 then qax r else checkN n
def longT (l : Nm) : Bool := l.any fun s => decide (255 < s.length)
def checkD (d : Dat) : Int :=
 if d.ty < 1 ∨ 65535 < d.ty then 6 else if qbm d = false then 2 else if qax d.names ≠ 0 then qax d.names
 else if d.ty = 15 ∧ 65535 < d.nums.headD 0 then 7 else if longT d.texts then 3 else if 1024 < d.raw.length then 3 else 0
theorem qgv (l : List Nm) (n : Nm) : qax (l ++ [n]) = if qax l = 0 then checkN n else qax l := by
 induction l with
 | nil => simp only [List.nil_append, qax, if_true]; split <;> simp_all
 | cons x r ih =>
  have e : ∀ l, qax (x :: l) = if checkN x = 0 then qax l else checkN x := fun _ => rfl
  rw [List.cons_append]
  by_cases h : checkN x = 0
  ·have e1 : ∀ l, qax (x :: l) = qax l := fun l => by rw [e, if_pos h]
   rw [e1, e1, ih]
  ·have e1 : ∀ l, qax (x :: l) = checkN x := fun l => by rw [e, if_neg h]
   rw [e1, e1, if_neg h]
theorem qgC {a p : List Nm} (h : p <+: a) (hp : qax p ≠ 0) : qax a = qax p := by
 obtain ⟨t, rfl⟩ := h
 induction p with
 | nil => exact absurd rfl hp
 | cons x r ih =>
  simp only [List.cons_append, qax] at hp ⊢
  by_cases h : checkN x = 0
  ·rw [if_pos h] at hp ⊢; rw [if_pos h]; exact ih hp
  ·rw [if_neg h, if_neg h]
def Dat.of (t : Int) : Dat := ⟨t, [], [], [], []⟩
end Go.Proofs.YtnpnfajgphpabaaGreat
