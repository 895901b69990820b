/-
  What law4.known asks: each call at its own words.
-/
import Derived.Test.YtkjmghnbcnbdbaaGreatDoorMQ06
import Derived.Test.YtkjmghnbcnbdbaaGreatDoorMQ07
import Derived.Test.YtkjmghnbcnbdbaaGreatDoorMQ16
import Derived.Test.YtkjmghnbcnbdbaaGreatDoorMQ25
namespace Go.Proofs.YtkjmghnbcnbdbaaGreatDoor
open Go.RowKit Go.Shelf
set_option maxRecDepth 20000
deriving instance DecidableEq for Dat
def wdF (l : List Wd) : List Value := l.flatMap fun x => [strV x.1, .bool x.2]
theorem wdF_get : ∀ (l : List Wd) (j : Nat) (hj : j < l.length), (wdF l)[j * 2]? = some (strV l[j].1) ∧ (wdF l)[j * 2 + 1]? = some (.bool l[j].2)
  | [], _, h => absurd h (by simp)
  | x :: r, 0, _ => by simp [wdF]
  | x :: r, j + 1, h => by
    have ih := wdF_get r j (by simpa using h)
    have e : wdF (x :: r) = strV x.1 :: .bool x.2 :: wdF r := by simp [wdF]
    rw [e, show (j + 1) * 2 = j * 2 + 1 + 1 from by omega]
    simp only [List.getElem?_cons_succ, List.getElem_cons_succ]
    exact ih
theorem wds_lit (W : World) (l : List Wd) (cs : List Value) (k g : Nat) (hc : cs = wdF l) (hk : l.length = k) (hg : W.heap.size = g) :
    WdsAt (W.alloc (.cells cs.toArray 52)) (.slice (some ⟨g, 0, none⟩) k k) l := by
  subst hc hk hg
  refine ⟨_, _, rfl, Nat.le_refl _, by simp, .inr ⟨_, _, rfl, by simp, ?_⟩⟩
  intro j hj
  obtain ⟨h1, h2⟩ := wdF_get l j hj
  rw [Nat.zero_add]
  exact ⟨new_at W _ _ _ _ h1, new_at W _ _ _ _ h2⟩
/-- Data whose five parts are told: what the box is filled with. -/
def DatV (w : World) (d : Dat) (n1 n2 n3 n4 : Nat) (v : Value) : Prop :=
  ∃ a1 c1 a2 c2 a3 c3 a4 c4, v = .agg #[.int .i64 d.ty, .slice a1 n1 c1, .slice a2 n2 c2, .slice a3 n3 c3, .slice a4 n4 c4] ∧ DatAt w v d ∧ n1 = d.names.length ∧ n2 = d.nums.length ∧ n3 = d.texts.length ∧ n4 = d.raw.length
theorem datV_of {w : World} {d : Dat} {v : Value} (n1 n2 n3 n4 : Nat) (h : DatAt w v d) (e1 : n1 = d.names.length) (e2 : n2 = d.nums.length) (e3 : n3 = d.texts.length) (e4 : n4 = d.raw.length) : DatV w d n1 n2 n3 n4 v := by
  obtain ⟨vn, vu, vt, vr, rfl, h1, h2, h3, h4⟩ := id h
  obtain ⟨vs, ⟨a1, c1, rfl, _⟩, s2, _⟩ := h1
  obtain ⟨a2, c2, rfl, _⟩ := h2
  obtain ⟨⟨a3, c3, rfl, _⟩, _⟩ := h3
  obtain ⟨a4, c4, rfl, _⟩ := h4
  refine ⟨a1, c1, a2, c2, a3, c3, a4, c4, ?_, h, e1, e2, e3, e4⟩
  subst e1 e2 e3 e4
  simp [s2]
theorem kn_Parse (t : Int) (l : List Wd) (o : Nm) (d : Dat) (er : Int) (n1 n2 n3 n4 : Nat) (h : parseD t l o = (d, er)) (e1 : n1 = d.names.length) (e2 : n2 = d.nums.length) (e3 : n3 = d.texts.length) (e4 : n4 = d.raw.length) (ty : Int) (hty : ty = d.ty)
    (W : World) (vl vo : Value) (hA : WdsAt W vl l) (hO : NmAt W vo o) (hM : MaxC W) (hk : WdsOK l) (hl : l.length ≤ 500000) (hok : NmOK o) (ho : o.length ≤ 500000) :
    Calls Tryz.prog 18 #[.int .i64 t, vl, vo] W fun e w' => ∃ a1 c1 a2 c2 a3 c3 a4 c4, e = .returned (.tuple #[.agg #[.int .i64 ty, .slice a1 n1 c1, .slice a2 n2 c2, .slice a3 n3 c3, .slice a4 n4 c4], .int .i64 er]) ∧ DatAt w' (.agg #[.int .i64 ty, .slice a1 n1 c1, .slice a2 n2 c2, .slice a3 n3 c3, .slice a4 n4 c4]) d ∧ Below W.heap.size W w' := by
  subst hty
  refine (rdata_Parse t vl l vo o W hA hk hl hO hok ho hM).mono ?_
  rw [h]
  rintro e w' ⟨v', rfl, hd, hb⟩
  obtain ⟨a1, c1, a2, c2, a3, c3, a4, c4, rfl, hd, _⟩ := datV_of n1 n2 n3 n4 hd e1 e2 e3 e4
  exact ⟨a1, c1, a2, c2, a3, c3, a4, c4, rfl, hd, hb⟩
theorem kn_Text (d : Dat) (out : Array UInt8) (h : textD d = out.toList) (h28 : d.ty ≠ 28) (hk : DatFew d) (W : World) (v : Value) (hA : DatAt W v d) (hT : Tab W) :
    Calls Tryz.prog 12 #[v] W fun e w' => e = .returned (.string ⟨out⟩) ∧ Below W.heap.size W w' :=
  (rdata_Text v d W hA hk hT h28).mono (by rintro e w' ⟨rfl, hb⟩; exact ⟨by rw [h], hb⟩)
theorem kn_Check (d : Dat) (er : Int) (h : checkD d = er) (hk : DatOK d) (W : World) (v : Value) (hA : DatAt W v d) :
    Calls Tryz.prog 11 #[v] W fun e w' => e = .returned (.int .i64 er) ∧ Below W.heap.size W w' := by
  subst h; exact rdata_Check v d W hA hk
theorem kn_Same (a b : Dat) (r : Bool) (h : (compareD a b == 0) = r) (hk : DatOK a) (hk2 : DatOK b) (W : World) (v u : Value) (hA : DatAt W v a) (hU : DatAt W u b) :
    Calls Tryz.prog 16 #[v, u] W fun e w' => e = .returned (.bool r) ∧ Below W.heap.size W w' := by
  subst h; exact rdata_Same v u a b W hA hU hk hk2
theorem kn_Compare (a b : Dat) (r : Int) (h : compareD a b = r) (hk : DatOK a) (hk2 : DatOK b) (W : World) (v u : Value) (hA : DatAt W v a) (hU : DatAt W u b) :
    Calls Tryz.prog 15 #[v, u] W fun e w' => e = .returned (.int .i64 r) ∧ Below W.heap.size W w' := by
  subst h; exact rdata_Compare v u a b W hA hU hk hk2
def knA : Dat := ⟨1, [], [], [], [10, 0, 0, 7]⟩
def knM : Dat := ⟨15, [[[120], [111]]], [5], [], []⟩
def knU : Dat := ⟨99, [], [], [], [10, 255]⟩
def knT : Dat := ⟨16, [], [], [[97, 34, 98]], []⟩
theorem knA_ok : DatOK knA := ⟨by decide, by decide, by simp [knA], by decide, by decide, ⟨by decide, by decide⟩, by decide⟩
theorem knM_ok : DatOK knM := ⟨by decide, by decide, by simp [knM, NmOK], by decide, by decide, ⟨by decide, by decide⟩, by decide⟩
theorem knU_ok : DatOK knU := ⟨by decide, by decide, by simp [knU], by decide, by decide, ⟨by decide, by decide⟩, by decide⟩
theorem knT_ok : DatOK knT := ⟨by decide, by decide, by simp [knT], by decide, by decide, ⟨by decide, by decide⟩, by decide⟩
theorem knA_few : DatFew knA := ⟨knA_ok, by decide, by simp [knA], by decide, by decide⟩
theorem knM_few : DatFew knM := ⟨knM_ok, by decide, by simp [knM], by decide, by decide⟩
theorem knU_few : DatFew knU := ⟨knU_ok, by decide, by simp [knU], by decide, by decide⟩
theorem knT_few : DatFew knT := ⟨knT_ok, by decide, by simp [knT], by decide, by decide⟩
theorem kp1 : parseD 1 [([49, 48, 46, 48, 46, 48, 46, 55], false)] [] = (knA, 0) := by decide +kernel
theorem kp2 : parseD 15 [([53], false), ([120], false)] [[111]] = (knM, 0) := by decide +kernel
theorem kp3 : parseD 99 [([92, 35], false), ([50], false), ([48, 65], false), ([102, 102], false)] [] = (knU, 0) := by decide +kernel
theorem kp4 : parseD 1 [([50, 53, 54, 46, 48, 46, 48, 46, 49], false)] [] = (Dat.none, 7) := by decide +kernel
theorem kp5 : parseD 16 [([97, 92, 34, 98], true)] [] = (knT, 0) := by decide +kernel
theorem kt1 : textD knA = #[49, 48, 46, 48, 46, 48, 46, 55].toList := by decide +kernel
theorem kt2 : textD knM = #[53, 32, 120, 46, 111, 46].toList := by decide +kernel
theorem kt3 : textD knU = #[92, 35, 32, 50, 32, 48, 97, 102, 102].toList := by decide +kernel
theorem kt4 : textD knT = #[34, 97, 92, 34, 98, 34].toList := by decide +kernel
theorem kc1 : checkD knA = 0 := by decide +kernel
theorem ks1 : (compareD knM knM == 0) = true := by decide +kernel
theorem ks2 : (compareD knA knM == 0) = false := by decide +kernel
theorem kc2 : compareD knA knM = -1 := by decide +kernel
end Go.Proofs.YtkjmghnbcnbdbaaGreatDoor

