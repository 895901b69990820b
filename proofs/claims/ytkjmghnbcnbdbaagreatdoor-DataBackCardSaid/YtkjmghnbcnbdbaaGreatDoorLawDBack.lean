/-
  law4.DataBack: true for any data, any origin. (Written by wip/tools/gen19.py.)
-/
import Derived.Test.YtkjmghnbcnbdbaaGreatDoorMQ10
import Derived.Test.YtkjmghnbcnbdbaaGreatDoorLawDAny
import Derived.Test.YtkjmghnbcnbdbaaGreatDoorDatBW
import Derived.Test.YtkjmghnbcnbdbaaGreatDoorDatBI
import Derived.Test.YtkjmghnbcnbdbaaGreatDoorDatBQ
import Derived.Test.YtkjmghnbcnbdbaaGreatDoorDatZ3
import Derived.Test.YtkjmghnbcnbdbaaGreatDoorDatFoldP
namespace Go.Proofs.YtkjmghnbcnbdbaaGreatDoor
open Go.RowKit Go.Shelf
set_option maxRecDepth 20000
theorem pack_facts {P : Nat → World → Prop} {g : Nat} {W : World} (h : P g W) : ∃ gx W5, gx = g ∧ W5 = W ∧ P gx W5 := ⟨g, W, rfl, rfl, h⟩
theorem wg_len : ∀ (n : Nat) (l : List UInt8), l.length ≤ n → ∀ (q : Bool) (w : List UInt8), (wordsG q w l).length ≤ l.length + 1 ∧ ∀ x ∈ wordsG q w l, x.1.length ≤ w.length + l.length := by
  intro n
  induction n with
  | zero =>
    intro l hl q w
    obtain rfl : l = [] := List.eq_nil_of_length_eq_zero (by omega)
    rw [wg_nil]
    by_cases h : w = []
    · rw [if_pos h]; simp
    · rw [if_neg h]; simp
  | succ n ih =>
    intro l hl q w
    cases l with
    | nil =>
      rw [wg_nil]
      by_cases h : w = []
      · rw [if_pos h]; simp
      · rw [if_neg h]; simp
    | cons c r =>
      simp only [List.length_cons] at hl ⊢
      rw [wordsG]
      have drop1 : (r.drop 1).length ≤ n := by rw [List.length_drop]; omega
      have hr : r.length ≤ n := by omega
      by_cases h1 : c = 92 ∧ r ≠ []
      · rw [if_pos h1]
        obtain ⟨i1, i2⟩ := ih (r.drop 1) drop1 q (w ++ c :: r.take 1)
        have hr0 : 1 ≤ r.length := by
          cases r with
          | nil => exact absurd rfl h1.2
          | cons y r => simp
        rw [List.length_drop] at i1 i2
        refine ⟨by omega, fun x hx => ?_⟩
        have := i2 x hx
        simp only [List.length_append, List.length_cons, List.length_take] at this
        omega
      · rw [if_neg h1]
        have two : ∀ (z : List UInt8) (b : Bool) (q' : Bool), z.length ≤ w.length → (((z, b) :: wordsG q' [] r).length ≤ r.length + 1 + 1 ∧ ∀ x ∈ (z, b) :: wordsG q' [] r, x.1.length ≤ w.length + (r.length + 1)) := by
          intro z b q' hz
          obtain ⟨i1, i2⟩ := ih r hr q' []
          refine ⟨by simp only [List.length_cons]; omega, fun x hx => ?_⟩
          rcases List.mem_cons.1 hx with rfl | hx
          · show z.length ≤ _; omega
          · have := i2 x hx; simp at this; omega
        have one : ∀ (z : List UInt8) (q' : Bool), z.length ≤ w.length + 1 → ((wordsG q' z r).length ≤ r.length + 1 + 1 ∧ ∀ x ∈ wordsG q' z r, x.1.length ≤ w.length + (r.length + 1)) := by
          intro z q' hz
          obtain ⟨i1, i2⟩ := ih r hr q' z
          exact ⟨by omega, fun x hx => by have := i2 x hx; omega⟩
        by_cases h2 : c = 34
        · rw [if_pos h2]
          by_cases h3 : q = true
          · rw [if_pos h3]; exact two w true false (Nat.le_refl _)
          · rw [if_neg h3]; exact one w true (by omega)
        · rw [if_neg h2]
          by_cases h3 : q = true
          · rw [if_pos h3]; exact one (w ++ [c]) q (by simp)
          · rw [if_neg h3]
            by_cases h4 : c = 32
            · rw [if_pos h4]
              by_cases h5 : w = []
              · rw [if_pos h5]; exact one [] false (by simp)
              · rw [if_neg h5]; exact two w false false (Nat.le_refl _)
            · rw [if_neg h4]; exact one (w ++ [c]) q (by simp)

theorem compareD_self (d : Dat) : compareD d d = 0 := by
  unfold compareD orI
  rw [if_pos (cmpI_self' _), if_pos (cmpL_self compareN_self _), if_pos (cmpL_self (f := cmpU) (fun x => cmpI_self' _) _), if_pos (cmpL_self orderM_self _)]
  exact cmpL_self (f := cmpB) (fun x => cmpI_self' _) _
theorem sepBy_sum (c : UInt8) : ∀ xs : Nm, (sepBy [c] xs).length ≤ (xs.map fun x => x.length + 1).sum
  | [] => by simp [sepBy]
  | [x] => by simp [sepBy]
  | x :: y :: r => by
    have ih := sepBy_sum c (y :: r)
    have e : sepBy [c] (x :: y :: r) = x ++ (c :: sepBy [c] (y :: r)) := by simp [sepBy]
    rw [e, List.map_cons, List.sum_cons, List.length_append, List.length_cons]
    omega
theorem sum_le (B : Nat) : ∀ xs : Nm, (∀ x ∈ xs, x.length ≤ B) → (xs.map fun x => x.length + 1).sum ≤ xs.length * (B + 1)
  | [], _ => by simp
  | x :: r, h => by
    have ih := sum_le B r (fun y hy => h y (by simp [hy]))
    have hx := h x (by simp)
    rw [List.map_cons, List.sum_cons, List.length_cons, Nat.add_mul]
    omega
theorem sepBy_two (c : UInt8) (a b : Nm) (n m A B : Nat) (ha : a.length ≤ n) (hb : b.length ≤ m) (h1 : ∀ x ∈ a, x.length ≤ A) (h2 : ∀ x ∈ b, x.length ≤ B) : (sepBy [c] (a ++ b)).length ≤ n * (A + 1) + m * (B + 1) ∧ (sepBy [c] (b ++ a)).length ≤ n * (A + 1) + m * (B + 1) := by
  have s1 := sum_le A a h1
  have s2 := sum_le B b h2
  have t1 : a.length * (A + 1) ≤ n * (A + 1) := Nat.mul_le_mul_right _ ha
  have t2 : b.length * (B + 1) ≤ m * (B + 1) := Nat.mul_le_mul_right _ hb
  have u1 := sepBy_sum c (a ++ b)
  have u2 := sepBy_sum c (b ++ a)
  rw [List.map_append, List.sum_append] at u1 u2
  exact ⟨by omega, by omega⟩
theorem textD_len {d : Dat} (hF : DatFew d) (hf : fewD d = true) : (textD d).length ≤ 499000 := by
  simp only [fewD, Bool.and_eq_true, decide_eq_true_eq] at hf
  obtain ⟨⟨f1, f2, f3, f4⟩, f5, f6⟩ := hf
  have hT : ∀ x ∈ d.names.map textN, x.length ≤ 56140 := by
    intro x hx
    obtain ⟨n, hn, rfl⟩ := List.mem_map.1 hx
    have h := of_decide_eq_true (f5 n hn)
    by_cases h0 : n = []
    · subst h0; simp [textN]
    · rw [textN_eq h0]
      have key : ∀ n : Nm, (∀ x ∈ n, x.length ≤ 100) → (textF n).length ≤ n.length * 401 := by
        intro n
        induction n with
        | nil => intro _; simp [textF]
        | cons x r ih =>
          intro h
          have e1 := h x (by simp)
          have e2 := ih (fun y hy => h y (by simp [hy]))
          have e3 := textL_le x
          simp only [textF, List.flatMap_cons, List.length_append, List.length_cons, List.length_nil] at e2 ⊢
          omega
      have := key n h.2
      omega
  have hN : ∀ x ∈ d.nums.map Lib.decDigits, x.length ≤ 19 := fun x hx => by
    obtain ⟨n, hn, rfl⟩ := List.mem_map.1 hx
    exact dec_len n (by have := hF.1.2.2.2.2.1 n hn; omega)
  obtain ⟨w1, w2⟩ := sepBy_two 32 (d.names.map textN) (d.nums.map Lib.decDigits) 8 12 56140 19 (by rw [List.length_map]; exact f1) (by rw [List.length_map]; exact f2) hT hN
  have hQ := sum_le 1202 (d.texts.map quotedM) (fun x hx => by
    obtain ⟨t, ht, rfl⟩ := List.mem_map.1 hx
    have h1 := f6 t ht
    have h2 := quoteF_le t
    have e : (quotedM t).length = (quoteF t).length + 2 := by simp [quotedM, quoteF]
    omega)
  have hQ2 := sepBy_sum 32 (d.texts.map quotedM)
  rw [List.length_map] at hQ
  have hA := sum_le 19 (d.raw.map fun c => Lib.decDigits c.toNat) (fun x hx => by
    obtain ⟨c, _, rfl⟩ := List.mem_map.1 hx
    exact dec_len c.toNat (by have := c.toNat_lt; omega))
  have hA2 := sepBy_sum 46 (d.raw.map fun c => Lib.decDigits c.toNat)
  rw [List.length_map] at hA
  have hG := sum_le 4 (hexes d.raw) (hexes_each d.raw)
  have hG2 := sepBy_sum 58 (hexes d.raw)
  rw [hexes_len] at hG
  have hO : (octetWordsM d.raw).length ≤ 3000 := by
    have h1 := dec_len d.raw.length (by omega)
    have h2 := hex2_len d.raw
    unfold octetWordsM
    by_cases e : d.raw = []
    · rw [if_pos e]; simp only [List.length_append, List.length_cons, List.length_nil]; omega
    · rw [if_neg e]; simp only [List.length_append, List.length_cons, List.length_nil]; omega
  unfold textD
  repeat' split
  all_goals omega

set_option maxRecDepth 100000 in
set_option maxHeartbeats 16000000 in
theorem law4_DataBack (va vo : Value) (d : Dat) (o : Nm) (w : World) (hA : DatArg w va d) (hO : NmArg w vo o) (hOA : NmAt w vo o) (hT : Tab w) (hM : MaxC w) (hZ : TabZ w) :
    Calls Tryz.prog 5 #[va, vo] w fun e w' => e = .returned (.bool true) ∧ Below w.heap.size w w' := by
  obtain ⟨a1, c1, a2, c2, a3, c3, a4, c4, rfl, hdA, _⟩ := datV_of _ _ _ _ hA.1 rfl rfl rfl rfl
  obtain ⟨⟨oa, oc, eo, _⟩, _⟩ := id hOA
  subst eo
  obtain ⟨on, eon⟩ : ∃ n, o.length = n := ⟨_, rfl⟩
  obtain ⟨p1, e1⟩ : ∃ n, d.names.length = n := ⟨_, rfl⟩
  obtain ⟨p2, e2⟩ : ∃ n, d.nums.length = n := ⟨_, rfl⟩
  obtain ⟨p3, e3⟩ : ∃ n, d.texts.length = n := ⟨_, rfl⟩
  obtain ⟨p4, e4⟩ : ∃ n, d.raw.length = n := ⟨_, rfl⟩
  rw [eon] at hO hOA
  rw [e1, e2, e3, e4] at hA hdA ⊢
  rw [eon]
  have HPA := Lib.hid hA.2
  have HT := Lib.hid hT; have HMx := Lib.hid hM; have HZ := Lib.hid hZ; have HO := Lib.hid hO; have HOAt := Lib.hid hOA
  have HOK := Lib.hid (show fewD d = true → DatOK d from fewD_ok hA)
  have Bz : Below w.heap.size w (w.alloc (.cells #[.int .i64 d.ty, .slice a1 p1 c1, .slice a2 p2 c2, .slice a3 p3 c3, .slice a4 p4 c4] 27)) := (Below.refl _ w).alloc (Nat.le_refl _) _
  have E1 := hdA.alloc (.cells #[.int .i64 d.ty, .slice a1 p1 c1, .slice a2 p2 c2, .slice a3 p3 c3, .slice a4 p4 c4] 27)
  have X1 := Box.new w #[.int .i64 d.ty, .slice a1 p1 c1, .slice a2 p2 c2, .slice a3 p3 c3, .slice a4 p4 c4]
  clear eon e1 e2 e3 e4 hA hT hM hdA hZ hO hOA
  go_enter Tryz.func5, Tryz.ntmps5
  go_wp2_with fail
  generalize (w.alloc (.cells #[.int .i64 d.ty, .slice a1 p1 c1, .slice a2 p2 c2, .slice a3 p3 c3, .slice a4 p4 c4] 27)) = W0 at *
  refine (law4_known _ (HT.out.below Bz) (HMx.out.below Bz)).mono ?_
  rintro e wr ⟨rfl, hb⟩
  replace Bz := Bz.trans (hb.mono Bz.size)
  replace X1 := X1.below hb
  replace E1 := E1.below hb
  clear hb
  obtain ⟨x0, x1, x2, x3, x4⟩ := cells5 X1
  go_wp2_with fail
  refine (law4_Few _ d _ ⟨E1, HPA.out⟩).mono ?_
  rintro e wr ⟨rfl, hb⟩
  replace Bz := Bz.trans (hb.mono Bz.size)
  replace X1 := X1.below hb
  replace E1 := E1.below hb
  clear hb
  by_cases hf : fewD d = true
  case neg =>
    have hg : fewD d = false := by simpa using hf
    rw [hg]
    clear hg hf x0 x1 x2 x3 x4
    obtain ⟨x0, x1, x2, x3, x4⟩ := cells5 X1
    go_wp2_with fail
    go_ret
    exact ⟨rfl, Bz⟩
  rw [hf]
  have HK := Lib.hid (HOK.out hf)
  have HF := Lib.hid (fewD_few HK.out hf)
  have hff := hf
  have HFF := Lib.hid hf
  clear hff hf x0 x1 x2 x3 x4
  obtain ⟨x0, x1, x2, x3, x4⟩ := cells5 X1
  go_wp2_with fail
  refine (law4_Of (.agg #[.int .i64 d.ty, .slice a1 p1 c1, .slice a2 p2 c2, .slice a3 p3 c3, .slice a4 p4 c4]) d _ E1 HK.out.2.1).mono ?_
  clear x0 x1 x2 x3 x4
  rintro e w2 ⟨u1, rfl, g1, hb⟩
  obtain ⟨t1, z1, t2, z2, t3, z3, t4, z4, rfl, g1, _⟩ := datV_of _ _ _ _ g1 rfl rfl rfl rfl
  replace Bz := Bz.trans (hb.mono Bz.size)
  replace X1 := X1.below hb
  replace E1 := E1.below hb
  clear hb
  go_wp2_with fail
  refine (ref_CheckData _ d _ g1 HK.out).mono ?_
  unfold CheckPost
  obtain ⟨er, her⟩ : ∃ er, checkD d = er := ⟨_, rfl⟩
  rw [her]
  have HER := Lib.hid her
  clear her g1
  rintro e wr ⟨rfl, hb⟩
  replace Bz := Bz.trans (hb.mono Bz.size)
  replace X1 := X1.below hb
  replace E1 := E1.below hb
  clear hb
  by_cases he : (er != 0) = true
  case pos =>
    go_wp2_with fail
    go_ret
    exact ⟨rfl, Bz⟩
  obtain rfl : er = 0 := by simpa using he
  clear he
  go_wp2_with fail
  refine (kn_Good _ o _ rfl w _ HO.out (HOAt.out.below Bz)).mono ?_
  rintro e wr ⟨rfl, hb⟩
  replace Bz := Bz.trans (hb.mono Bz.size)
  replace X1 := X1.below hb
  replace E1 := E1.below hb
  clear hb
  cases hg : goodN o with
  | false =>
    go_wp2_with fail
    go_ret
    exact ⟨rfl, Bz⟩
  | true =>
  have HOK2 := Lib.hid (show NmOK o ∧ o.length ≤ 500000 from by
    unfold goodN at hg
    rw [Bool.and_eq_true] at hg
    have h := of_decide_eq_true hg.1
    exact ⟨fewN_ok hg.1, by omega⟩)
  clear hg
  obtain ⟨tx, htx⟩ : ∃ tx, textD d = tx := ⟨_, rfl⟩
  have hpb := parse_back d o HER.out HK.out
  rw [htx] at hpb
  have HTL := Lib.hid (show tx.length ≤ 499000 from by rw [← htx]; exact textD_len HF.out HFF.out)
  obtain ⟨WS, hWS⟩ : ∃ WS, wordsG false [] tx = WS := ⟨_, rfl⟩
  have hwl := wg_len tx.length tx (Nat.le_refl _) false []
  rw [hWS] at hpb hwl
  obtain ⟨wn, hwn⟩ : ∃ n, WS.length = n := ⟨_, rfl⟩
  have HWL := Lib.hid hwl
  have HWN := Lib.hid hwn
  have HPB := Lib.hid hpb
  have KD : ∀ W : World, Below wr.heap.size wr W → (W.cell? ⟨w.heap.size, 0, none⟩ = some (.int .i64 d.ty) ∧ W.cell? ⟨w.heap.size, 1, none⟩ = some (.slice a1 p1 c1) ∧ W.cell? ⟨w.heap.size, 2, none⟩ = some (.slice a2 p2 c2) ∧ W.cell? ⟨w.heap.size, 3, none⟩ = some (.slice a3 p3 c3) ∧ W.cell? ⟨w.heap.size, 4, none⟩ = some (.slice a4 p4 c4) ∧ Below wr.heap.size wr W) := fun W hb => by
    obtain ⟨y0, y1, y2, y3, y4⟩ := cells5 (X1.below hb)
    exact ⟨y0, y1, y2, y3, y4, hb⟩
  have KS := Lib.hid (fun (W W' : World) (h : (W.cell? ⟨w.heap.size, 0, none⟩ = some (.int .i64 d.ty) ∧ W.cell? ⟨w.heap.size, 1, none⟩ = some (.slice a1 p1 c1) ∧ W.cell? ⟨w.heap.size, 2, none⟩ = some (.slice a2 p2 c2) ∧ W.cell? ⟨w.heap.size, 3, none⟩ = some (.slice a3 p3 c3) ∧ W.cell? ⟨w.heap.size, 4, none⟩ = some (.slice a4 p4 c4) ∧ Below wr.heap.size wr W)) (hb : Below W.heap.size W W') => KD W' (h.2.2.2.2.2.trans (hb.mono h.2.2.2.2.2.size)))
  have KR := Lib.hid (fun (W : World) (h : (W.cell? ⟨w.heap.size, 0, none⟩ = some (.int .i64 d.ty) ∧ W.cell? ⟨w.heap.size, 1, none⟩ = some (.slice a1 p1 c1) ∧ W.cell? ⟨w.heap.size, 2, none⟩ = some (.slice a2 p2 c2) ∧ W.cell? ⟨w.heap.size, 3, none⟩ = some (.slice a3 p3 c3) ∧ W.cell? ⟨w.heap.size, 4, none⟩ = some (.slice a4 p4 c4) ∧ Below wr.heap.size wr W)) => KD W.drew (below_drew1 h.2.2.2.2.2))
  have KA := Lib.hid (fun (W : World) (o : Obj) (h : (W.cell? ⟨w.heap.size, 0, none⟩ = some (.int .i64 d.ty) ∧ W.cell? ⟨w.heap.size, 1, none⟩ = some (.slice a1 p1 c1) ∧ W.cell? ⟨w.heap.size, 2, none⟩ = some (.slice a2 p2 c2) ∧ W.cell? ⟨w.heap.size, 3, none⟩ = some (.slice a3 p3 c3) ∧ W.cell? ⟨w.heap.size, 4, none⟩ = some (.slice a4 p4 c4) ∧ Below wr.heap.size wr W)) => KD (W.alloc o) (h.2.2.2.2.2.alloc h.2.2.2.2.2.size o))
  have K5 := Lib.hid (fun (W : World) (g : Nat) (v0 v1 v2 v3 v4 : Value) (h : (W.cell? ⟨w.heap.size, 0, none⟩ = some (.int .i64 d.ty) ∧ W.cell? ⟨w.heap.size, 1, none⟩ = some (.slice a1 p1 c1) ∧ W.cell? ⟨w.heap.size, 2, none⟩ = some (.slice a2 p2 c2) ∧ W.cell? ⟨w.heap.size, 3, none⟩ = some (.slice a3 p3 c3) ∧ W.cell? ⟨w.heap.size, 4, none⟩ = some (.slice a4 p4 c4) ∧ Below wr.heap.size wr W)) (hg : wr.heap.size ≤ g) => KD (set5 W g v0 v1 v2 v3 v4) (h.2.2.2.2.2.trans ((set5_below (Below.refl g W) v0 v1 v2 v3 v4).mono hg)))
  have HBE := Lib.hid (fun (W : World) (h : (W.cell? ⟨w.heap.size, 0, none⟩ = some (.int .i64 d.ty) ∧ W.cell? ⟨w.heap.size, 1, none⟩ = some (.slice a1 p1 c1) ∧ W.cell? ⟨w.heap.size, 2, none⟩ = some (.slice a2 p2 c2) ∧ W.cell? ⟨w.heap.size, 3, none⟩ = some (.slice a3 p3 c3) ∧ W.cell? ⟨w.heap.size, 4, none⟩ = some (.slice a4 p4 c4) ∧ Below wr.heap.size wr W)) => Bz.trans (h.2.2.2.2.2.mono Bz.size))
  have HE1 := Lib.hid E1
  have HX1 := Lib.hid X1
  have HTx := Lib.hid (fun (W : World) (h : (W.cell? ⟨w.heap.size, 0, none⟩ = some (.int .i64 d.ty) ∧ W.cell? ⟨w.heap.size, 1, none⟩ = some (.slice a1 p1 c1) ∧ W.cell? ⟨w.heap.size, 2, none⟩ = some (.slice a2 p2 c2) ∧ W.cell? ⟨w.heap.size, 3, none⟩ = some (.slice a3 p3 c3) ∧ W.cell? ⟨w.heap.size, 4, none⟩ = some (.slice a4 p4 c4) ∧ Below wr.heap.size wr W)) => rdata_TextZ (.agg #[.int .i64 d.ty, .slice a1 p1 c1, .slice a2 p2 c2, .slice a3 p3 c3, .slice a4 p4 c4]) d W (HE1.out.below h.2.2.2.2.2) HF.out (HT.out.below (HBE.out W h)) (HZ.out.below (HBE.out W h)))
  have HWd := Lib.hid (fun (W : World) => law4_words ⟨tx.toArray⟩ W (by have := HTL.out; rw [mk_size]; omega))
  rw [show (⟨tx.toArray⟩ : ByteArray).data.toList = tx from rfl, hWS] at HWd
  rw [htx] at HTx
  have HPs := Lib.hid (fun (W : World) (vl : Value) (h : (W.cell? ⟨w.heap.size, 0, none⟩ = some (.int .i64 d.ty) ∧ W.cell? ⟨w.heap.size, 1, none⟩ = some (.slice a1 p1 c1) ∧ W.cell? ⟨w.heap.size, 2, none⟩ = some (.slice a2 p2 c2) ∧ W.cell? ⟨w.heap.size, 3, none⟩ = some (.slice a3 p3 c3) ∧ W.cell? ⟨w.heap.size, 4, none⟩ = some (.slice a4 p4 c4) ∧ Below wr.heap.size wr W)) (hw : WdsAt W vl WS) => rdata_ParseR d.ty vl WS (.slice oa on oc) o W hw ⟨by have := HWL.out.1; have := HTL.out; omega, fun x hx => by have h2 := HWL.out.2 x hx; have h3 := HTL.out; rw [List.length_nil, Nat.zero_add] at h2; omega⟩ (by have := HWL.out.1; have := HTL.out; omega) (HOAt.out.below (HBE.out W h)) HOK2.out.1 HOK2.out.2 (HMx.out.below (HBE.out W h)))
  unfold ParseRPost at HPs
  rw [hpb] at HPs
  have HZA := Lib.hid (fun (W0 W : World) (hb : Below (W0.alloc (.cells #[.int .i64 0, .slice none 0 0, .slice none 0 0, .slice none 0 0, .slice none 0 0] 27)).heap.size (W0.alloc (.cells #[.int .i64 0, .slice none 0 0, .slice none 0 0, .slice none 0 0, .slice none 0 0] 27)) W) => (hb.block W0.heap.size (by simp)).trans (block_new W0 (.cells #[.int .i64 0, .slice none 0 0, .slice none 0 0, .slice none 0 0, .slice none 0 0] 27)))
  have KAD := Lib.hid (fun (o : Obj) => KD (wr.alloc o).drew (below_drew1 ((Below.refl wr.heap.size wr).alloc (Nat.le_refl _) o)))
  have HZD := Lib.hid (fun (W : World) (hb : Below (wr.alloc (.cells #[.int .i64 0, .slice none 0 0, .slice none 0 0, .slice none 0 0, .slice none 0 0] 27)).drew.heap.size (wr.alloc (.cells #[.int .i64 0, .slice none 0 0, .slice none 0 0, .slice none 0 0, .slice none 0 0] 27)).drew W) => (hb.block wr.heap.size (by show wr.heap.size < (wr.alloc (.cells #[.int .i64 0, .slice none 0 0, .slice none 0 0, .slice none 0 0, .slice none 0 0] 27)).heap.size; simp)).trans (show (wr.alloc (.cells #[.int .i64 0, .slice none 0 0, .slice none 0 0, .slice none 0 0, .slice none 0 0] 27)).drew.heap[wr.heap.size]? = some (.cells #[.int .i64 0, .slice none 0 0, .slice none 0 0, .slice none 0 0, .slice none 0 0] 27) from block_new wr (.cells #[.int .i64 0, .slice none 0 0, .slice none 0 0, .slice none 0 0, .slice none 0 0] 27)))
  have hS := KD wr (Below.refl _ _)
  clear KD X1 E1 hpb htx hWS hwl hwn Bz
  go_wp2_with fail
  go_region_held3 (fun W => (W.cell? ⟨w.heap.size, 0, none⟩ = some (.int .i64 d.ty) ∧ W.cell? ⟨w.heap.size, 1, none⟩ = some (.slice a1 p1 c1) ∧ W.cell? ⟨w.heap.size, 2, none⟩ = some (.slice a2 p2 c2) ∧ W.cell? ⟨w.heap.size, 3, none⟩ = some (.slice a3 p3 c3) ∧ W.cell? ⟨w.heap.size, 4, none⟩ = some (.slice a4 p4 c4) ∧ Below wr.heap.size wr W)) (first | with_reducible assumption | (with_reducible exact KR.out _ (by with_reducible assumption)) | (with_reducible exact KA.out _ _ (by with_reducible assumption)) | (with_reducible exact KAD.out _)) (first
    | ((with_reducible refine (HTx.out _ (by with_reducible assumption)).mono ?_); rintro e w2 ⟨rfl, hb2⟩; have hS2 := KS.out _ _ (by with_reducible assumption) hb2; have HQ2 := Lib.hid hS2.2.2.2.2.2.size; (try (with_reducible have hzA2 := HZD.out w2 hb2)))
    | ((with_reducible refine (HWd.out _).mono ?_); rintro e w3 ⟨v3, rfl, how, hb3⟩; obtain ⟨wa, wc, ew⟩ := how.shape; rw [HWN.out] at ew; subst ew; have hS3 := KS.out _ _ (by with_reducible assumption) hb3; have HQ3 := Lib.hid hS3.2.2.2.2.2.size; have hwd := Lib.hid how.wds; have hwdA := Lib.hid (fun ob => how.wds.below ((Below.refl _ w3).alloc (Nat.le_refl _) ob)); (try (have hzA3 := (hb3.block _ (block_lt hzA2)).trans hzA2)); (try (with_reducible have hzB3 := HZA.out w2 w3 hb3)))
    | ((with_reducible refine (HPs.out _ _ (by with_reducible assumption) (by first | exact hwd.out | exact hwdA.out _)).mono ?_); rintro e w4 ⟨vn, vu, vt, vr, rfl, hrow, hb4⟩; obtain ⟨xs, hxv, hxl, hxe⟩ := id hrow.1; obtain ⟨xa1, xc1, rfl⟩ := hxv.shape; obtain ⟨xa2, xc2, rfl⟩ := hrow.2.1.shape; obtain ⟨xa3, xc3, rfl⟩ := hrow.2.2.1.shape; obtain ⟨xa4, xc4, rfl⟩ := hrow.2.2.2.shape; clear hxe hxv; generalize xs.length = xm1 at *; generalize d.nums.length = xm2 at *; generalize hxm3 : d.texts.length = xm3 at *; generalize d.raw.length = xm4 at *; clear hxl hxm3; have hS4 := KS.out _ _ (by with_reducible assumption) hb4; first | (have hz4 := (hb4.block _ (block_lt hzA3)).trans hzA3; obtain ⟨r0, r1, r2, r3, r4⟩ := cells5 hz4; obtain ⟨f0, f1, f2, f3, f4⟩ := frozen5 hz4; have hX5 := Lib.hid (set5_block hz4 (.int .i64 d.ty) (.slice xa1 xm1 xc1) (.slice xa2 xm2 xc2) (.slice xa3 xm3 xc3) (.slice xa4 xm4 xc4)); have hD5 := Lib.hid (set5_row hz4 (.int .i64 d.ty) (.slice xa1 xm1 xc1) (.slice xa2 xm2 xc2) (.slice xa3 xm3 xc3) (.slice xa4 xm4 xc4) hrow).datAt; have hS5 := K5.out w4 _ (.int .i64 d.ty) (.slice xa1 xm1 xc1) (.slice xa2 xm2 xc2) (.slice xa3 xm3 xc3) (.slice xa4 xm4 xc4) hS4 (Nat.le_refl _); unfold set5 at hS5 hX5 hD5) | (have hz4 := (hb4.block _ (block_lt hzB3)).trans hzB3; obtain ⟨r0, r1, r2, r3, r4⟩ := cells5 hz4; obtain ⟨f0, f1, f2, f3, f4⟩ := frozen5 hz4; have hX5 := Lib.hid (set5_block hz4 (.int .i64 d.ty) (.slice xa1 xm1 xc1) (.slice xa2 xm2 xc2) (.slice xa3 xm3 xc3) (.slice xa4 xm4 xc4)); have hD5 := Lib.hid (set5_row hz4 (.int .i64 d.ty) (.slice xa1 xm1 xc1) (.slice xa2 xm2 xc2) (.slice xa3 xm3 xc3) (.slice xa4 xm4 xc4) hrow).datAt; have hS5 := K5.out w4 _ (.int .i64 d.ty) (.slice xa1 xm1 xc1) (.slice xa2 xm2 xc2) (.slice xa3 xm3 xc3) (.slice xa4 xm4 xc4) hS4 HQ2.out; unfold set5 at hS5 hX5 hD5) | (with_reducible have hz4 := HZA.out w3 w4 hb4; obtain ⟨r0, r1, r2, r3, r4⟩ := cells5 hz4; obtain ⟨f0, f1, f2, f3, f4⟩ := frozen5 hz4; have hX5 := Lib.hid (set5_block hz4 (.int .i64 d.ty) (.slice xa1 xm1 xc1) (.slice xa2 xm2 xc2) (.slice xa3 xm3 xc3) (.slice xa4 xm4 xc4)); have hD5 := Lib.hid (set5_row hz4 (.int .i64 d.ty) (.slice xa1 xm1 xc1) (.slice xa2 xm2 xc2) (.slice xa3 xm3 xc3) (.slice xa4 xm4 xc4) hrow).datAt; have hS5 := K5.out w4 _ (.int .i64 d.ty) (.slice xa1 xm1 xc1) (.slice xa2 xm2 xc2) (.slice xa3 xm3 xc3) (.slice xa4 xm4 xc4) hS4 HQ3.out; unfold set5 at hS5 hX5 hD5) | (have hX5 := Lib.hid (block_new w4 (.cells #[.int .i64 d.ty, .slice xa1 xm1 xc1, .slice xa2 xm2 xc2, .slice xa3 xm3 xc3, .slice xa4 xm4 xc4] 27)); have hD5 := Lib.hid ((hrow.below ((Below.refl _ w4).alloc (Nat.le_refl _) (.cells #[.int .i64 d.ty, .slice xa1 xm1 xc1, .slice xa2 xm2 xc2, .slice xa3 xm3 xc3, .slice xa4 xm4 xc4] 27))).datAt))))
  all_goals
    rename_i hSe
    obtain ⟨gx, W5, hgx, hW5, hX6, hD6, hS6⟩ := pack_facts (P := fun g W => W.heap[g]? = some (.cells #[.int .i64 d.ty, .slice xa1 xm1 xc1, .slice xa2 xm2 xc2, .slice xa3 xm3 xc3, .slice xa4 xm4 xc4] 27) ∧ DatAt W (.agg #[.int .i64 d.ty, .slice xa1 xm1 xc1, .slice xa2 xm2 xc2, .slice xa3 xm3 xc3, .slice xa4 xm4 xc4]) d ∧ (W.cell? ⟨w.heap.size, 0, none⟩ = some (.int .i64 d.ty) ∧ W.cell? ⟨w.heap.size, 1, none⟩ = some (.slice a1 p1 c1) ∧ W.cell? ⟨w.heap.size, 2, none⟩ = some (.slice a2 p2 c2) ∧ W.cell? ⟨w.heap.size, 3, none⟩ = some (.slice a3 p3 c3) ∧ W.cell? ⟨w.heap.size, 4, none⟩ = some (.slice a4 p4 c4) ∧ Below wr.heap.size wr W)) ⟨hX5.out, hD5.out, hSe⟩
    rw [← hW5]
    rw [← hgx]
    have hBw5 := hS6.2.2.2.2.2
    have E6 := HE1.out.below hBw5
    have XD5 := HX1.out.below hBw5
    have Bz5 := HBE.out _ hS6
    clear hX5 hD5 hSe hW5 hgx hS6
    have KD6 : ∀ W : World, Below W5.heap.size W5 W → (W.cell? ⟨w.heap.size, 0, none⟩ = some (.int .i64 d.ty) ∧ W.cell? ⟨w.heap.size, 1, none⟩ = some (.slice a1 p1 c1) ∧ W.cell? ⟨w.heap.size, 2, none⟩ = some (.slice a2 p2 c2) ∧ W.cell? ⟨w.heap.size, 3, none⟩ = some (.slice a3 p3 c3) ∧ W.cell? ⟨w.heap.size, 4, none⟩ = some (.slice a4 p4 c4) ∧ W.cell? ⟨gx, 0, none⟩ = some (.int .i64 d.ty) ∧ W.cell? ⟨gx, 1, none⟩ = some (.slice xa1 xm1 xc1) ∧ W.cell? ⟨gx, 2, none⟩ = some (.slice xa2 xm2 xc2) ∧ W.cell? ⟨gx, 3, none⟩ = some (.slice xa3 xm3 xc3) ∧ W.cell? ⟨gx, 4, none⟩ = some (.slice xa4 xm4 xc4) ∧ Below W5.heap.size W5 W) := fun W hb => by
      obtain ⟨y0, y1, y2, y3, y4⟩ := cells5 (XD5.below hb)
      obtain ⟨z0, z1, z2, z3, z4⟩ := cells5 ((hb.block gx (block_lt hX6)).trans hX6)
      exact ⟨y0, y1, y2, y3, y4, z0, z1, z2, z3, z4, hb⟩
    have KS6 := Lib.hid (fun (W W' : World) (h : (W.cell? ⟨w.heap.size, 0, none⟩ = some (.int .i64 d.ty) ∧ W.cell? ⟨w.heap.size, 1, none⟩ = some (.slice a1 p1 c1) ∧ W.cell? ⟨w.heap.size, 2, none⟩ = some (.slice a2 p2 c2) ∧ W.cell? ⟨w.heap.size, 3, none⟩ = some (.slice a3 p3 c3) ∧ W.cell? ⟨w.heap.size, 4, none⟩ = some (.slice a4 p4 c4) ∧ W.cell? ⟨gx, 0, none⟩ = some (.int .i64 d.ty) ∧ W.cell? ⟨gx, 1, none⟩ = some (.slice xa1 xm1 xc1) ∧ W.cell? ⟨gx, 2, none⟩ = some (.slice xa2 xm2 xc2) ∧ W.cell? ⟨gx, 3, none⟩ = some (.slice xa3 xm3 xc3) ∧ W.cell? ⟨gx, 4, none⟩ = some (.slice xa4 xm4 xc4) ∧ Below W5.heap.size W5 W)) (hb : Below W.heap.size W W') => KD6 W' (h.2.2.2.2.2.2.2.2.2.2.trans (hb.mono h.2.2.2.2.2.2.2.2.2.2.size)))
    have KR6 := Lib.hid (fun (W : World) (h : (W.cell? ⟨w.heap.size, 0, none⟩ = some (.int .i64 d.ty) ∧ W.cell? ⟨w.heap.size, 1, none⟩ = some (.slice a1 p1 c1) ∧ W.cell? ⟨w.heap.size, 2, none⟩ = some (.slice a2 p2 c2) ∧ W.cell? ⟨w.heap.size, 3, none⟩ = some (.slice a3 p3 c3) ∧ W.cell? ⟨w.heap.size, 4, none⟩ = some (.slice a4 p4 c4) ∧ W.cell? ⟨gx, 0, none⟩ = some (.int .i64 d.ty) ∧ W.cell? ⟨gx, 1, none⟩ = some (.slice xa1 xm1 xc1) ∧ W.cell? ⟨gx, 2, none⟩ = some (.slice xa2 xm2 xc2) ∧ W.cell? ⟨gx, 3, none⟩ = some (.slice xa3 xm3 xc3) ∧ W.cell? ⟨gx, 4, none⟩ = some (.slice xa4 xm4 xc4) ∧ Below W5.heap.size W5 W)) => KD6 W.drew (below_drew1 h.2.2.2.2.2.2.2.2.2.2))
    have HOx := Lib.hid (fun (W : World) (h : (W.cell? ⟨w.heap.size, 0, none⟩ = some (.int .i64 d.ty) ∧ W.cell? ⟨w.heap.size, 1, none⟩ = some (.slice a1 p1 c1) ∧ W.cell? ⟨w.heap.size, 2, none⟩ = some (.slice a2 p2 c2) ∧ W.cell? ⟨w.heap.size, 3, none⟩ = some (.slice a3 p3 c3) ∧ W.cell? ⟨w.heap.size, 4, none⟩ = some (.slice a4 p4 c4) ∧ W.cell? ⟨gx, 0, none⟩ = some (.int .i64 d.ty) ∧ W.cell? ⟨gx, 1, none⟩ = some (.slice xa1 xm1 xc1) ∧ W.cell? ⟨gx, 2, none⟩ = some (.slice xa2 xm2 xc2) ∧ W.cell? ⟨gx, 3, none⟩ = some (.slice xa3 xm3 xc3) ∧ W.cell? ⟨gx, 4, none⟩ = some (.slice xa4 xm4 xc4) ∧ Below W5.heap.size W5 W)) => law4_Of (.agg #[.int .i64 d.ty, .slice xa1 xm1 xc1, .slice xa2 xm2 xc2, .slice xa3 xm3 xc3, .slice xa4 xm4 xc4]) d W (hD6.below h.2.2.2.2.2.2.2.2.2.2) HK.out.2.1)
    have HOd := Lib.hid (fun (W : World) (h : (W.cell? ⟨w.heap.size, 0, none⟩ = some (.int .i64 d.ty) ∧ W.cell? ⟨w.heap.size, 1, none⟩ = some (.slice a1 p1 c1) ∧ W.cell? ⟨w.heap.size, 2, none⟩ = some (.slice a2 p2 c2) ∧ W.cell? ⟨w.heap.size, 3, none⟩ = some (.slice a3 p3 c3) ∧ W.cell? ⟨w.heap.size, 4, none⟩ = some (.slice a4 p4 c4) ∧ W.cell? ⟨gx, 0, none⟩ = some (.int .i64 d.ty) ∧ W.cell? ⟨gx, 1, none⟩ = some (.slice xa1 xm1 xc1) ∧ W.cell? ⟨gx, 2, none⟩ = some (.slice xa2 xm2 xc2) ∧ W.cell? ⟨gx, 3, none⟩ = some (.slice xa3 xm3 xc3) ∧ W.cell? ⟨gx, 4, none⟩ = some (.slice xa4 xm4 xc4) ∧ Below W5.heap.size W5 W)) => law4_Of (.agg #[.int .i64 d.ty, .slice a1 p1 c1, .slice a2 p2 c2, .slice a3 p3 c3, .slice a4 p4 c4]) d W (E6.below h.2.2.2.2.2.2.2.2.2.2) HK.out.2.1)
    have HI := Lib.hid (fun (W : World) (u1 u2 : Value) (h1 : DatAt W u1 d) (h2 : DatAt W u2 d) => law4_Is u1 u2 d W h1 h2 HK.out)
    have HSm := Lib.hid (fun (W : World) (h : (W.cell? ⟨w.heap.size, 0, none⟩ = some (.int .i64 d.ty) ∧ W.cell? ⟨w.heap.size, 1, none⟩ = some (.slice a1 p1 c1) ∧ W.cell? ⟨w.heap.size, 2, none⟩ = some (.slice a2 p2 c2) ∧ W.cell? ⟨w.heap.size, 3, none⟩ = some (.slice a3 p3 c3) ∧ W.cell? ⟨w.heap.size, 4, none⟩ = some (.slice a4 p4 c4) ∧ W.cell? ⟨gx, 0, none⟩ = some (.int .i64 d.ty) ∧ W.cell? ⟨gx, 1, none⟩ = some (.slice xa1 xm1 xc1) ∧ W.cell? ⟨gx, 2, none⟩ = some (.slice xa2 xm2 xc2) ∧ W.cell? ⟨gx, 3, none⟩ = some (.slice xa3 xm3 xc3) ∧ W.cell? ⟨gx, 4, none⟩ = some (.slice xa4 xm4 xc4) ∧ Below W5.heap.size W5 W)) => kn_Same d d true (by rw [compareD_self]; rfl) HK.out HK.out W (.agg #[.int .i64 d.ty, .slice xa1 xm1 xc1, .slice xa2 xm2 xc2, .slice xa3 xm3 xc3, .slice xa4 xm4 xc4]) (.agg #[.int .i64 d.ty, .slice a1 p1 c1, .slice a2 p2 c2, .slice a3 p3 c3, .slice a4 p4 c4]) (hD6.below h.2.2.2.2.2.2.2.2.2.2) (E6.below h.2.2.2.2.2.2.2.2.2.2))
    have HBE6 := Lib.hid (fun (W : World) (h : (W.cell? ⟨w.heap.size, 0, none⟩ = some (.int .i64 d.ty) ∧ W.cell? ⟨w.heap.size, 1, none⟩ = some (.slice a1 p1 c1) ∧ W.cell? ⟨w.heap.size, 2, none⟩ = some (.slice a2 p2 c2) ∧ W.cell? ⟨w.heap.size, 3, none⟩ = some (.slice a3 p3 c3) ∧ W.cell? ⟨w.heap.size, 4, none⟩ = some (.slice a4 p4 c4) ∧ W.cell? ⟨gx, 0, none⟩ = some (.int .i64 d.ty) ∧ W.cell? ⟨gx, 1, none⟩ = some (.slice xa1 xm1 xc1) ∧ W.cell? ⟨gx, 2, none⟩ = some (.slice xa2 xm2 xc2) ∧ W.cell? ⟨gx, 3, none⟩ = some (.slice xa3 xm3 xc3) ∧ W.cell? ⟨gx, 4, none⟩ = some (.slice xa4 xm4 xc4) ∧ Below W5.heap.size W5 W)) => Bz5.trans (h.2.2.2.2.2.2.2.2.2.2.mono Bz5.size))
    have hS := KD6 W5 (Below.refl _ _)
    clear KD6 hX6 hD6 E6 XD5 Bz5 hBw5
    go_wp2_with fail
    go_region_held3 (fun W => (W.cell? ⟨w.heap.size, 0, none⟩ = some (.int .i64 d.ty) ∧ W.cell? ⟨w.heap.size, 1, none⟩ = some (.slice a1 p1 c1) ∧ W.cell? ⟨w.heap.size, 2, none⟩ = some (.slice a2 p2 c2) ∧ W.cell? ⟨w.heap.size, 3, none⟩ = some (.slice a3 p3 c3) ∧ W.cell? ⟨w.heap.size, 4, none⟩ = some (.slice a4 p4 c4) ∧ W.cell? ⟨gx, 0, none⟩ = some (.int .i64 d.ty) ∧ W.cell? ⟨gx, 1, none⟩ = some (.slice xa1 xm1 xc1) ∧ W.cell? ⟨gx, 2, none⟩ = some (.slice xa2 xm2 xc2) ∧ W.cell? ⟨gx, 3, none⟩ = some (.slice xa3 xm3 xc3) ∧ W.cell? ⟨gx, 4, none⟩ = some (.slice xa4 xm4 xc4) ∧ Below W5.heap.size W5 W)) (first | with_reducible assumption | (with_reducible exact KR6.out _ (by with_reducible assumption))) (first
      | ((with_reducible refine (HOx.out _ (by with_reducible assumption)).mono ?_); rintro e w6 ⟨u1, rfl, g1, hb6⟩; obtain ⟨t1, z1, t2, z2, t3, z3, t4, z4, rfl, g1, _⟩ := datV_of _ _ _ _ g1 rfl rfl rfl rfl; have G1 := Lib.hid g1; clear g1; have hS7 := KS6.out _ _ (by with_reducible assumption) hb6)
      | ((with_reducible refine (HOd.out _ (by with_reducible assumption)).mono ?_); rintro e w7 ⟨u2, rfl, g2, hb7⟩; obtain ⟨s1, y1, s2, y2, s3, y3, s4, y4, rfl, g2, _⟩ := datV_of _ _ _ _ g2 rfl rfl rfl rfl; have G2 := Lib.hid g2; clear g2; have G1b := Lib.hid (G1.out.below hb7); have hS7 := KS6.out _ _ (by with_reducible assumption) hb7)
      | ((with_reducible refine (HI.out _ _ _ G1b.out G2.out).mono ?_); rintro e w8 ⟨rfl, hb8⟩; have hS7 := KS6.out _ _ (by with_reducible assumption) hb8)
      | ((with_reducible refine (HSm.out _ (by with_reducible assumption)).mono ?_); rintro e w9 ⟨rfl, hb9⟩; have hS7 := KS6.out _ _ (by with_reducible assumption) hb9))
    all_goals
      rename_i hSf
      go_wp2_with fail
      go_ret
      exact ⟨rfl, HBE6.out _ hSf⟩

theorem law4_DataBack' {W : World} (va : Value) (d : Dat) (hA : DatArg W va d) (vo : Value) (o : Nm) (hO : NmArg W vo o) (w : World) (e : w = W) (hT : Tab w) (hM : MaxC w) (hZ : TabZ w) :
    Calls Tryz.prog 5 #[va, vo] w fun e w' => e = .returned (.bool true) ∧ Below w.heap.size w w' := by
  subst e; exact law4_DataBack va vo d o w hA hO hO.1 hT hM hZ
end Go.Proofs.YtkjmghnbcnbdbaaGreatDoor
