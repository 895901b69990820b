/-
  rec.least: the least TTL of a row of records.
-/
import Derived.Test.YtckammgnmgkieaaMQ31
import Derived.Test.YtckammgnmgkieaaMQ12
import Derived.Test.YtckammgnmgkieaaMQ25
import Derived.IntWalk
import Derived.Outline
import Derived.Test.YtckammgnmgkieaaMQ10
import Derived.Deep.RegionHeld3
import Derived.Deep.AppendLies
namespace Go.Proofs.Ytckammgnmgkieaa
set_option maxRecDepth 20000
open Go.RowKit Go.Shelf
set_option maxRecDepth 20000
set_option linter.unusedVariables false
set_option linter.unusedSimpArgs false

/-- The seven cells of an element. -/
theorem SlK.elem {W : World} {a : Option Addr} {n c : Nat} {css : List (List Value)} (h : SlK W (.slice a n c) css) (hk : ∀ cs ∈ css, cs.length = 7) (h0 : 0 < css.length) : ∃ b off, a = some ⟨b, off, none⟩ ∧ b < W.heap.size ∧
    ∀ k (hlt : k < css.length) (u0 u1 u2 u3 u4 u5 u6 : Value), css[k] = [u0, u1, u2, u3, u4, u5, u6] → ∀ W', Below W.heap.size W W' →
      W'.cell? ⟨b, off + k * 7, none⟩ = some u0 ∧ W'.cell? ⟨b, off + k * 7 + 1, none⟩ = some u1 ∧ W'.cell? ⟨b, off + k * 7 + 2, none⟩ = some u2 ∧ W'.cell? ⟨b, off + k * 7 + 3, none⟩ = some u3 ∧ W'.cell? ⟨b, off + k * 7 + 4, none⟩ = some u4 ∧ W'.cell? ⟨b, off + k * 7 + 5, none⟩ = some u5 ∧ W'.cell? ⟨b, off + k * 7 + 6, none⟩ = some u6 := by
  obtain ⟨a', c', e, _, _, h3⟩ := h
  cases e
  rcases h3 with h3 | ⟨b, off, rfl, hb, hc⟩
  · subst h3; simp at h0
  · refine ⟨b, off, rfl, hb, fun k hlt u0 u1 u2 u3 u4 u5 u6 he W' hB => ?_⟩
    have key : ∀ j u, j < 7 → [u0, u1, u2, u3, u4, u5, u6][j]? = some u → W'.cell? ⟨b, off + k * 7 + j, none⟩ = some u := fun j u hj hu => by
      rw [hB.cell (p := ⟨b, off + k * 7 + j, none⟩) hb, Nat.add_assoc]
      refine hc (k * 7 + j) u ?_
      have hl : ∀ (l : List (List Value)) (k : Nat) (hlt : k < l.length), (∀ cs ∈ l, cs.length = 7) → l[k] = [u0, u1, u2, u3, u4, u5, u6] → l.flatten[k * 7 + j]? = some u := by
        intro l
        induction l with
        | nil => intro k hlt; simp at hlt
        | cons x r ih =>
          intro k hlt hk he
          rw [List.flatten_cons]
          cases k with
          | zero =>
            rw [List.getElem_cons_zero] at he
            rw [he, List.getElem?_append_left (by simp; omega)]
            simpa using hu
          | succ k =>
            rw [List.getElem_cons_succ] at he
            have hx : x.length = 7 := hk x (by simp)
            rw [List.getElem?_append_right (by rw [hx]; omega), hx, show (k + 1) * 7 + j - 7 = k * 7 + j by omega]
            exact ih k (by simpa using hlt) (fun cs hc => hk cs (by simp [hc])) he
      exact hl css k hlt hk he
    exact ⟨key 0 u0 (by omega) rfl, key 1 u1 (by omega) rfl, key 2 u2 (by omega) rfl, key 3 u3 (by omega) rfl, key 4 u4 (by omega) rfl, key 5 u5 (by omega) rfl, key 6 u6 (by omega) rfl⟩
theorem Rcs.ck {W : World} {css : List (List Value)} {rs : List Rc} (h : Rcs W css rs) : ∀ cs ∈ css, cs.length = 7 := fun cs hc => by
  obtain ⟨i, hi, rfl⟩ := List.mem_iff_getElem.1 hc
  exact (h.2 i hi (by have := h.1; omega)).len

theorem RcAt.shape {W : World} {cs : List Value} {r : Rc} (h : RcAt W cs r) : ∃ x0 x3 x4 x5 x6 : Option Addr × Nat × Nat, cs = [.slice x0.1 x0.2.1 x0.2.2, .int .u32 (r.ttl : Int), .int .i64 r.data.ty, .slice x3.1 x3.2.1 x3.2.2, .slice x4.1 x4.2.1 x4.2.2, .slice x5.1 x5.2.1 x5.2.2, .slice x6.1 x6.2.1 x6.2.2] := by
  obtain ⟨vo, vn, vu, vt, vr, rfl, h1, h2⟩ := h
  obtain ⟨un, uu, ut, ur, e, ⟨vs, g1, _⟩, g2, g3, g4⟩ := h2
  have e' : #[Value.int .i64 r.data.ty, vn, vu, vt, vr] = #[Value.int .i64 r.data.ty, un, uu, ut, ur] := by injection e
  simp only [Array.mk.injEq, List.cons.injEq, and_true, true_and] at e'
  obtain ⟨rfl, rfl, rfl, rfl⟩ := e'
  obtain ⟨a0, c0, rfl, _⟩ := nmAt_sl.1 h1
  obtain ⟨a3, c3, rfl, _⟩ := g1
  obtain ⟨a4, c4, rfl, _⟩ := g2
  obtain ⟨a5, c5, rfl, _⟩ := nmAt_sl.1 g3
  obtain ⟨a6, c6, rfl, _⟩ := g4
  exact ⟨(a0, _, c0), (a3, _, c3), (a4, _, c4), (a5, _, c5), (a6, _, c6), rfl⟩

set_option maxHeartbeats 2000000 in
theorem canon_ttl (u0 u2 u3 u4 u5 u6 : Value) (t : Int) (w : World) :
    Calls Try.prog 49 #[.agg #[u0, .int .u32 t, u2, u3, u4, u5, u6]] w fun e w' => e = .returned (.int .u32 t) ∧ Below w.heap.size w w' := by
  go_enter Try.func49, Try.ntmps49
  go_wp2
  go_ret
  exact ⟨rfl, (Below.refl _ w).alloc (Nat.le_refl _) _⟩

theorem minT_min (a b : Nat) : minT a b = min a b := by unfold minT; split <;> omega
theorem leastM_take (t : Nat) (l : List Rc) (k : Nat) (hk : k < l.length) : leastM t (l.take (k + 1)) = minT (leastM t (l.take k)) l[k].ttl := by
  rw [List.take_succ_eq_append_getElem hk, leastM_snoc]
theorem leastM_le (t : Nat) : ∀ l : List Rc, leastM t l ≤ t := fun l => by
  unfold leastM
  induction l generalizing t with
  | nil => exact Nat.le_refl _
  | cons x l ih => exact Nat.le_trans (ih (minT t x.ttl)) (minT_le t x.ttl).1
theorem leastM_first (y : Rc) (l : List Rc) : leastM y.ttl (y :: l) = leastM y.ttl l := by
  show l.foldl _ (minT y.ttl y.ttl) = _
  have : minT y.ttl y.ttl = y.ttl := by unfold minT; split <;> rfl
  rw [this]; rfl

set_option maxRecDepth 100000 in
set_option maxHeartbeats 8000000 in
theorem rec_least (v : Value) (css : List (List Value)) (y : Rc) (rs : List Rc) (w : World) (hA : SlK w v css) (hR : Rcs w css (y :: rs)) (hOK : ∀ r ∈ y :: rs, RcOK r) (hl : css.length ≤ 1000000000000) :
    Calls Try.prog 48 #[v, .func (.func 49) #[] #[]] w fun e w' => e = .returned (.int .u32 (leastM y.ttl rs : Nat)) ∧ Below w.heap.size w w' := by
  rw [← leastM_first]
  have hlen := hR.1
  obtain ⟨a, c, rfl, hc1, hc2, hx⟩ := id hA
  obtain ⟨b, off, rfl, hb, hcell⟩ := hA.elem hR.ck (by rw [hlen]; simp)
  obtain ⟨n, hn⟩ : ∃ n, css.length = n := ⟨_, rfl⟩
  have HROW := Lib.hid hR.2
  have HCELL := Lib.hid hcell
  have HL := Lib.hid hlen
  have HOK := Lib.hid hOK
  have hnc : n ≤ c := by omega
  have hn0 : 0 < n := by rw [← hn, hlen]; simp
  rw [hn]
  have HN := Lib.hid hn
  have hy0 : ((y :: rs)[0]'(by simp)) = y := rfl
  have h0 := HROW.out 0 (by omega) (by simp)
  rw [hy0] at h0
  obtain ⟨⟨p0, q0, r0⟩, ⟨p3, q3, r3⟩, ⟨p4, q4, r4⟩, ⟨p5, q5, r5⟩, ⟨p6, q6, r6⟩, e0⟩ := h0.shape
  clear h0
  simp only at e0
  obtain ⟨c0, c1, c2, c3, c4, c5, c6⟩ := HCELL.out 0 (by rw [HN.out]; exact hn0) _ _ _ _ _ _ _ e0 w (Below.refl _ _)
  rw [Nat.zero_mul, Nat.add_zero] at c0 c1 c2 c3 c4 c5 c6
  have hci := canon_ttl (.slice p0 q0 r0) (.int .i64 y.data.ty) (.slice p3 q3 r3) (.slice p4 q4 r4) (.slice p5 q5 r5) (.slice p6 q6 r6) (y.ttl : Int)
  have hyt : y.ttl < 2 ^ 32 := (HOK.out y (by simp)).2.1
  have HY : Hid (y.ttl < 2 ^ 32) := Lib.hid hyt
  clear hA hR hc1 hc2 hx hcell hlen hOK hn hy0 e0 hyt
  go_enter Try.func48, Try.ntmps48
  go_wp2_with fail
  refine (hci _).mono ?_
  rintro e w1 ⟨rfl, hb1⟩
  have HB1 := Lib.hid hb1
  clear hb1 hci c0 c1 c2 c3 c4 c5 c6
  go_wp2
  go_loopw [5, 15] (fun vt vi wr => ∃ (k t : Nat), vi = .int .i64 k ∧ vt = .int .u32 t ∧ k ≤ n ∧ Hid (t = leastM y.ttl ((y :: rs).take k)) ∧ Hid (Below w.heap.size w wr)) (fun _ vi _ => n - (intOf vi).toNat)
  case atStart => exact ⟨0, y.ttl, rfl, rfl, Nat.zero_le _, Lib.hid rfl, HB1⟩
  case round =>
    obtain ⟨k, t, rfl, rfl, hk, HT, HB⟩ := hrel
    by_cases hlt : k < n
    · have hltz : (k : Int) < (n : Int) := by omega
      have hk1 : k < css.length := by have := HN.out; omega
      have hk2 : k < (y :: rs).length := by have := HL.out; omega
      have h0 := HROW.out k hk1 hk2
      obtain ⟨r, hr⟩ : ∃ r, (y :: rs)[k] = r := ⟨_, rfl⟩
      rw [hr] at h0
      have HRR := Lib.hid hr
      obtain ⟨⟨p0, q0, r0⟩, ⟨p3, q3, r3⟩, ⟨p4, q4, r4⟩, ⟨p5, q5, r5⟩, ⟨p6, q6, r6⟩, e0⟩ := h0.shape
      clear h0
      simp only at e0
      obtain ⟨c0, c1, c2, c3, c4, c5, c6⟩ := HCELL.out k hk1 _ _ _ _ _ _ _ e0 wr HB.out
      have hci := canon_ttl (.slice p0 q0 r0) (.int .i64 r.data.ty) (.slice p3 q3 r3) (.slice p4 q4 r4) (.slice p5 q5 r5) (.slice p6 q6 r6) (r.ttl : Int)
      have HK12 := Lib.hid (And.intro hk1 hk2)
      clear e0 hr
      obtain ⟨m, hm⟩ : ∃ m, minT t r.ttl = m := ⟨_, rfl⟩
      have hmz : min (t : Int) (r.ttl : Int) = (m : Int) := by rw [← hm, minT_min]; omega
      have HMM := Lib.hid hm
      clear hm
      go_wp2_with fail
      refine (hci _).mono ?_
      rintro e w2 ⟨rfl, hb2⟩
      have HB2 := Lib.hid hb2
      clear hb2 hci c0 c1 c2 c3 c4 c5 c6
      go_wp2
      go_roundw
      case measure => simp [intOf]; omega
      case rel =>
        refine ⟨k + 1, m, by go_num, rfl, by omega, Lib.hid ?_, Lib.hid ?_⟩
        · rw [leastM_take y.ttl (y :: rs) k HK12.out.2, HRR.out, ← HT.out, HMM.out]
        · have h1 := (HB.out.alloc (o := Obj.cells #[.slice p0 q0 r0, .int .u32 (r.ttl : Int), .int .i64 r.data.ty, .slice p3 q3 r3, .slice p4 q4 r4, .slice p5 q5 r5, .slice p6 q6 r6] 33) HB.out.size)
          exact h1.trans (HB2.out.mono h1.size)
    · obtain rfl : k = n := by omega
      go_wp2
      go_ret
      have e := HT.out
      rw [List.take_of_length_le (by have := HL.out; have := HN.out; omega)] at e
      exact ⟨by rw [e]; rfl, HB.out⟩
end Go.Proofs.Ytckammgnmgkieaa

/-
  rdata.readGroups.
-/
namespace Go.Proofs.Ytckammgnmgkieaa
set_option maxRecDepth 20000
open Go.RowKit Go.Shelf

theorem groups_bad {p : List UInt8} {r : Nm} (h : p.length < 1 ∨ 4 < p.length ∨ p.all hexB = false) : groupsR (p :: r) = ([], 2) := by rw [groupsR, if_pos h]
theorem groups_ok {p : List UInt8} {r : Nm} (h : ¬ (p.length < 1 ∨ 4 < p.length ∨ p.all hexB = false)) : groupsR (p :: r) = join [UInt8.ofNat (groupV p / 256), UInt8.ofNat (groupV p % 256)] (groupsR r) := by
  rw [groupsR, if_neg h]; unfold join; rfl
theorem groups_nil (l : Nm) : groupsR l = join [] (groupsR l) := by
  unfold join
  induction l with
  | nil => rfl
  | cons p r _ =>
    by_cases h : p.length < 1 ∨ 4 < p.length ∨ p.all hexB = false
    · rw [groups_bad h]; rfl
    · rw [groups_ok h]
      unfold join
      by_cases h2 : (groupsR r).2 = 0
      · simp [h2]
      · simp [h2]
theorem groupV_snoc (l : List UInt8) (c : UInt8) : groupV (l ++ [c]) = 16 * groupV l + hexV c := by simp [groupV]
theorem groupV_lt (l : List UInt8) : groupV l < 16 ^ l.length := by
  have key : ∀ (l : List UInt8) (n : Nat), l.foldl (fun n c => 16 * n + hexV c) n < (n + 1) * 16 ^ l.length := by
    intro l
    induction l with
    | nil => intro n; simp
    | cons c r ih =>
      intro n
      have h1 := ih (16 * n + hexV c)
      have h2 := hexV_lt c
      have h3 : (16 * n + hexV c + 1) * 16 ^ r.length ≤ ((n + 1) * 16) * 16 ^ r.length := Nat.mul_le_mul_right _ (by omega)
      rw [List.foldl_cons, List.length_cons, Nat.pow_succ, Nat.mul_comm (16 ^ r.length) 16, ← Nat.mul_assoc]
      omega
  have := key l 0
  simpa [groupV] using this
theorem groupV_le4 {l : List UInt8} (h : l.length ≤ 4) : groupV l ≤ 65535 := by
  have h1 := groupV_lt l
  have h2 : 16 ^ l.length ≤ 16 ^ 4 := Nat.pow_le_pow_right (by decide) h
  have h3 : (16 : Nat) ^ 4 = 65536 := by decide
  omega
theorem i64_or_nat (a b : Nat) (ha : a < 9223372036854775808) (hb : b < 9223372036854775808) : bits .or .i64 (a : Int) (b : Int) = ((a ||| b : Nat) : Int) := by
  have hx : a ||| b < 2 ^ 63 := Nat.or_lt_two_pow (by omega) (by omega)
  have o : ∀ c : Nat, c < 9223372036854775808 → (BitVec.ofInt 64 (c : Int)).toNat = c := fun c hc => by
    rw [BitVec.ofInt_natCast, BitVec.toNat_ofNat]; exact Nat.mod_eq_of_lt (by omega)
  show IntKind.i64.wrap ((BitVec.ofInt 64 (a : Int) ||| BitVec.ofInt 64 (b : Int)).toNat : Int) = _
  rw [BitVec.toNat_or, o a ha, o b hb, IntKind.wrap_i64]
  omega
theorem or_nibble (g v : Nat) (hv : v < 16) (hg : g ≤ 4095) : bits .or .i64 ((g : Int) * 16) (v : Int) = ((16 * g + v : Nat) : Int) := by
  rw [show ((g : Int) * 16) = ((16 * g : Nat) : Int) by omega, i64_or_nat _ _ (by omega) (by omega)]
  congr 1
  exact (Nat.two_pow_add_eq_or_of_lt (i := 4) (by omega) g).symm

end Go.Proofs.Ytckammgnmgkieaa

/-
  rdata.readOctets.
-/
namespace Go.Proofs.Ytckammgnmgkieaa
set_option maxRecDepth 20000
open Go.RowKit Go.Shelf

theorem WdsAt.drop {W : World} {g off n c : Nat} {l : List Wd} (h : WdsAt W (.slice (some ⟨g, off, none⟩) n c) l) (hn : l.length = n) (h1 : 1 ≤ n) :
    WdsAt W (.slice (if c = 1 then some ⟨g, off, none⟩ else some ⟨g, off + 2, none⟩) (n - 1) (c - 1)) (l.drop 1) := by
  obtain ⟨a, c', e, h2, h3, h⟩ := h
  rw [Value.slice.injEq] at e
  obtain ⟨rfl, _, rfl⟩ := e
  refine ⟨_, _, by rw [List.length_drop, hn], by rw [List.length_drop, hn]; omega, ?_, ?_⟩
  · intro h; split at h <;> cases h
  · rcases h with h | ⟨b, o, e, hb, hcell⟩
    · subst h; simp at hn; omega
    · rw [Option.some.injEq] at e
      cases e
      by_cases h4 : c = 1
      · left; exact List.eq_nil_of_length_eq_zero (by rw [List.length_drop]; omega)
      · right
        rw [if_neg h4]
        refine ⟨g, off + 2, rfl, hb, fun j hj => ?_⟩
        have hj' : j + 1 < l.length := by rw [List.length_drop] at hj; omega
        have := hcell (j + 1) hj'
        rw [show off + (j + 1) * 2 = off + 2 + j * 2 by omega] at this
        rw [List.getElem_drop]
        simp only [Nat.add_comm 1 j]
        exact this
theorem WdsOK.drop {l : List Wd} (h : WdsOK l) (k : Nat) : WdsOK (l.drop k) := ⟨by have := h.1; rw [List.length_drop]; omega, fun x hx => h.2 x (List.mem_of_mem_drop hx)⟩
theorem halvesL_len (l : List Wd) (h : WdsOK l) : (halvesL l).length ≤ l.length * 500000 := by
  have h := h.2
  have key : ∀ l : List Wd, (∀ x ∈ l, x.1.length ≤ 500000) → (halvesL l).length ≤ l.length * 500000 := by
    intro l h
    induction l with
    | nil => simp [halvesL]
    | cons x r ih =>
      have h1 := h x (by simp)
      have h2 := ih (fun y hy => h y (by simp [hy]))
      simp only [halvesL, List.flatMap_cons, List.length_append, List.length_map, List.length_cons] at h2 ⊢
      omega
  exact key l h
theorem pairUp_len : ∀ (n : Nat) (l : List UInt8), l.length = 2 * n → (pairUp l).length = n
  | 0, l, h => by
    have e : l = [] := List.eq_nil_of_length_eq_zero (by omega)
    subst e; rfl
  | n + 1, a :: b :: r, h => by simp only [pairUp, List.length_cons] at h ⊢; rw [pairUp_len n r (by omega)]
  | n + 1, [], h => by simp at h
  | n + 1, [_], h => by simp at h; omega
theorem pairUp_snoc : ∀ (n : Nat) (l : List UInt8) (h : 2 * n + 1 < l.length), pairUp (l.take (2 * (n + 1))) = pairUp (l.take (2 * n)) ++ [UInt8.ofNat (16 * l[2 * n].toNat + l[2 * n + 1].toNat)]
  | 0, a :: b :: r, _ => by simp [pairUp]
  | n + 1, a :: b :: r, h => by
    have h' : 2 * n + 1 < r.length := by simp at h; omega
    have ih := pairUp_snoc n r h'
    have e1 : (a :: b :: r).take (2 * (n + 1 + 1)) = a :: b :: r.take (2 * (n + 1)) := by
      rw [show 2 * (n + 1 + 1) = 2 * (n + 1) + 1 + 1 by omega]; rfl
    have e2 : (a :: b :: r).take (2 * (n + 1)) = a :: b :: r.take (2 * n) := by
      rw [show 2 * (n + 1) = 2 * n + 1 + 1 by omega]; rfl
    rw [e1, e2]
    simp only [pairUp, ih, List.cons_append, List.cons.injEq, List.append_cancel_left_eq, and_true, true_and]
    congr 1
  | 0, [], h => by simp at h
  | 0, [_], h => by simp at h
  | n + 1, [], h => by simp at h
  | n + 1, [_], h => by simp at h
theorem halves_lt {l : List Wd} {x : UInt8} (h : x ∈ halvesL l) : x.toNat < 16 := by
  unfold halvesL at h
  obtain ⟨y, _, hy⟩ := List.mem_flatMap.1 h
  obtain ⟨c, _, rfl⟩ := List.mem_map.1 hy
  have := hexV_lt c
  unfold hexW
  have h : (UInt8.ofNat (hexV c)).toNat = hexV c := by simp; omega
  omega
theorem nibbles (a b : UInt8) (h1 : a.toNat < 16) (h2 : b.toNat < 16) : [Value.int .u8 (bits .or .u8 (IntKind.u8.wrap ((a.toNat : Int) * 16)) (b.toNat : Int))] = [UInt8.ofNat (16 * a.toNat + b.toNat)].map bv := by
  rw [show IntKind.u8.wrap ((a.toNat : Int) * 16) = (a.toNat : Int) * 16 by rw [IntKind.wrap_u8]; omega]
  have h : bits .or .u8 ((a.toNat : Int) * 16) (b.toNat : Int) = ((16 * a.toNat + b.toNat : Nat) : Int) := by
    rw [show ((a.toNat : Int) * 16) = ((16 * a.toNat : Nat) : Int) by omega, u8_or_nat _ _ (by omega) (by omega)]
    congr 1
    have key : ∀ x y : Fin 16, 16 * x.val ||| y.val = 16 * x.val + y.val := by decide
    exact key ⟨_, h1⟩ ⟨_, h2⟩
  have e : (UInt8.ofNat (16 * a.toNat + b.toNat)).toNat = 16 * a.toNat + b.toNat := by simp; omega
  simp only [List.map_cons, List.map_nil, bv, h, e]
theorem counted_addr (t : Int) (xs : List UInt8) (h : t = 1 ∨ t = 28) : countedM ⟨t, [], [], [], xs⟩ = decide (¬ (t = 1 ∧ xs.length ≠ 4 ∨ t = 28 ∧ xs.length ≠ 16)) := by
  rcases h with rfl | rfl
  · rw [countedM_lit _ 0 0 4 rfl (by show (1 : Int) ≠ 16; decide)]; apply decide_eq_decide.2; simp
  · rw [countedM_lit _ 0 0 16 rfl (by show (28 : Int) ≠ 16; decide)]; apply decide_eq_decide.2; simp
/-- The loop over the pairs, cut off: what octetsD says behind its tests. -/
theorem octetsD_known {t : Int} {l : List Wd} (h : knownM t = true) (h2 : ¬ (t = 1 ∨ t = 28)) : octetsD t l = ([], 6) := by unfold octetsD; rw [if_pos ⟨h, h2⟩]
theorem octetsD_nil {t : Int} (h : ¬ (knownM t = true ∧ ¬ (t = 1 ∨ t = 28))) : octetsD t [] = ([], 2) := by unfold octetsD; rw [if_neg h]
theorem octetsD_cons {t : Int} {s : List UInt8} {q : Bool} {r : List Wd} (h : ¬ (knownM t = true ∧ ¬ (t = 1 ∨ t = 28))) : octetsD t ((s, q) :: r) =
    if q then ([], 2) else if (numM s 4294967295).2 ≠ 0 then ([], (numM s 4294967295).2) else if 1024 < (numM s 4294967295).1 then ([], 3) else
    if halvesOK r = false ∨ (halvesL r).length ≠ 2 * (numM s 4294967295).1 then ([], 2) else if (t = 1 ∧ (numM s 4294967295).1 ≠ 4) ∨ (t = 28 ∧ (numM s 4294967295).1 ≠ 16) then ([], 2) else (pairUp (halvesL r), 0) := by
  unfold octetsD; rw [if_neg h]

end Go.Proofs.Ytckammgnmgkieaa

