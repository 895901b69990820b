/-
  rdata.readOctets.
-/
import Derived.Test.YtkjmghnbcnbdbaaGreatDoorMQ32
import Derived.Test.YtkjmghnbcnbdbaaGreatDoorMQ13
import Derived.Test.YtkjmghnbcnbdbaaGreatDoorMQ33
import Derived.Deep.RegionHeld3
import Derived.Deep.AppendLies
import Derived.Outline
import Derived.IntWalk
namespace Go.Proofs.YtkjmghnbcnbdbaaGreatDoor
open Go.RowKit Go.Shelf

theorem WdsAt.drop {W : World} {g off n c : Nat} {l : List Wd} (h : WdsAt W (.slice (some ⟨g, off, none⟩) n c) l) (hn : l.length = n) (h1 : 1 ≤ n) :
    WdsAt W (.slice (if c = 1 then some ⟨g, off, none⟩ else some ⟨g, off + 2, none⟩) (n - 1) (c - 1)) (l.drop 1) := by
  obtain ⟨a, c', e, h2, h3, h⟩ := h
  rw [Value.slice.injEq] at e
  obtain ⟨rfl, _, rfl⟩ := e
  refine ⟨_, _, by rw [List.length_drop, hn], by rw [List.length_drop, hn]; omega, ?_, ?_⟩
  · intro h; split at h <;> cases h
  · rcases h with h | ⟨b, o, e, hb, hcell⟩
    · subst h; simp at hn; omega
    · rw [Option.some.injEq] at e
      cases e
      by_cases h4 : c = 1
      · left; exact List.eq_nil_of_length_eq_zero (by rw [List.length_drop]; omega)
      · right
        rw [if_neg h4]
        refine ⟨g, off + 2, rfl, hb, fun j hj => ?_⟩
        have hj' : j + 1 < l.length := by rw [List.length_drop] at hj; omega
        have := hcell (j + 1) hj'
        rw [show off + (j + 1) * 2 = off + 2 + j * 2 by omega] at this
        rw [List.getElem_drop]
        simp only [Nat.add_comm 1 j]
        exact this
theorem WdsOK.drop {l : List Wd} (h : WdsOK l) (k : Nat) : WdsOK (l.drop k) := ⟨by have := h.1; rw [List.length_drop]; omega, fun x hx => h.2 x (List.mem_of_mem_drop hx)⟩
theorem halvesL_len (l : List Wd) (h : WdsOK l) : (halvesL l).length ≤ l.length * 500000 := by
  have h := h.2
  have key : ∀ l : List Wd, (∀ x ∈ l, x.1.length ≤ 500000) → (halvesL l).length ≤ l.length * 500000 := by
    intro l h
    induction l with
    | nil => simp [halvesL]
    | cons x r ih =>
      have h1 := h x (by simp)
      have h2 := ih (fun y hy => h y (by simp [hy]))
      simp only [halvesL, List.flatMap_cons, List.length_append, List.length_map, List.length_cons] at h2 ⊢
      omega
  exact key l h
theorem pairUp_len : ∀ (n : Nat) (l : List UInt8), l.length = 2 * n → (pairUp l).length = n
  | 0, l, h => by
    have e : l = [] := List.eq_nil_of_length_eq_zero (by omega)
    subst e; rfl
  | n + 1, a :: b :: r, h => by simp only [pairUp, List.length_cons] at h ⊢; rw [pairUp_len n r (by omega)]
  | n + 1, [], h => by simp at h
  | n + 1, [_], h => by simp at h; omega
theorem pairUp_snoc : ∀ (n : Nat) (l : List UInt8) (h : 2 * n + 1 < l.length), pairUp (l.take (2 * (n + 1))) = pairUp (l.take (2 * n)) ++ [UInt8.ofNat (16 * l[2 * n].toNat + l[2 * n + 1].toNat)]
  | 0, a :: b :: r, _ => by simp [pairUp]
  | n + 1, a :: b :: r, h => by
    have h' : 2 * n + 1 < r.length := by simp at h; omega
    have ih := pairUp_snoc n r h'
    have e1 : (a :: b :: r).take (2 * (n + 1 + 1)) = a :: b :: r.take (2 * (n + 1)) := by
      rw [show 2 * (n + 1 + 1) = 2 * (n + 1) + 1 + 1 by omega]; rfl
    have e2 : (a :: b :: r).take (2 * (n + 1)) = a :: b :: r.take (2 * n) := by
      rw [show 2 * (n + 1) = 2 * n + 1 + 1 by omega]; rfl
    rw [e1, e2]
    simp only [pairUp, ih, List.cons_append, List.cons.injEq, List.append_cancel_left_eq, and_true, true_and]
    congr 1
  | 0, [], h => by simp at h
  | 0, [_], h => by simp at h
  | n + 1, [], h => by simp at h
  | n + 1, [_], h => by simp at h
theorem halves_lt {l : List Wd} {x : UInt8} (h : x ∈ halvesL l) : x.toNat < 16 := by
  unfold halvesL at h
  obtain ⟨y, _, hy⟩ := List.mem_flatMap.1 h
  obtain ⟨c, _, rfl⟩ := List.mem_map.1 hy
  have := hexV_lt c
  unfold hexW
  have h : (UInt8.ofNat (hexV c)).toNat = hexV c := by simp; omega
  omega
theorem nibbles (a b : UInt8) (h1 : a.toNat < 16) (h2 : b.toNat < 16) : [Value.int .u8 (bits .or .u8 (IntKind.u8.wrap ((a.toNat : Int) * 16)) (b.toNat : Int))] = [UInt8.ofNat (16 * a.toNat + b.toNat)].map bv := by
  rw [show IntKind.u8.wrap ((a.toNat : Int) * 16) = (a.toNat : Int) * 16 by rw [IntKind.wrap_u8]; omega]
  have h : bits .or .u8 ((a.toNat : Int) * 16) (b.toNat : Int) = ((16 * a.toNat + b.toNat : Nat) : Int) := by
    rw [show ((a.toNat : Int) * 16) = ((16 * a.toNat : Nat) : Int) by omega, u8_or_nat _ _ (by omega) (by omega)]
    congr 1
    have key : ∀ x y : Fin 16, 16 * x.val ||| y.val = 16 * x.val + y.val := by decide
    exact key ⟨_, h1⟩ ⟨_, h2⟩
  have e : (UInt8.ofNat (16 * a.toNat + b.toNat)).toNat = 16 * a.toNat + b.toNat := by simp; omega
  simp only [List.map_cons, List.map_nil, bv, h, e]
theorem counted_addr (t : Int) (xs : List UInt8) (h : t = 1 ∨ t = 28) : countedM ⟨t, [], [], [], xs⟩ = decide (¬ (t = 1 ∧ xs.length ≠ 4 ∨ t = 28 ∧ xs.length ≠ 16)) := by
  rcases h with rfl | rfl
  · rw [countedM_lit _ 0 0 4 rfl (by show (1 : Int) ≠ 16; decide)]; apply decide_eq_decide.2; simp
  · rw [countedM_lit _ 0 0 16 rfl (by show (28 : Int) ≠ 16; decide)]; apply decide_eq_decide.2; simp
/-- The loop over the pairs, cut off: what octetsD says behind its tests. -/
theorem octetsD_known {t : Int} {l : List Wd} (h : knownM t = true) (h2 : ¬ (t = 1 ∨ t = 28)) : octetsD t l = ([], 6) := by unfold octetsD; rw [if_pos ⟨h, h2⟩]
theorem octetsD_nil {t : Int} (h : ¬ (knownM t = true ∧ ¬ (t = 1 ∨ t = 28))) : octetsD t [] = ([], 2) := by unfold octetsD; rw [if_neg h]
theorem octetsD_cons {t : Int} {s : List UInt8} {q : Bool} {r : List Wd} (h : ¬ (knownM t = true ∧ ¬ (t = 1 ∨ t = 28))) : octetsD t ((s, q) :: r) =
    if q then ([], 2) else if (numM s 4294967295).2 ≠ 0 then ([], (numM s 4294967295).2) else if 1024 < (numM s 4294967295).1 then ([], 3) else
    if halvesOK r = false ∨ (halvesL r).length ≠ 2 * (numM s 4294967295).1 then ([], 2) else if (t = 1 ∧ (numM s 4294967295).1 ≠ 4) ∨ (t = 28 ∧ (numM s 4294967295).1 ≠ 16) then ([], 2) else (pairUp (halvesL r), 0) := by
  unfold octetsD; rw [if_neg h]

set_option maxRecDepth 100000 in
set_option maxHeartbeats 16000000 in
theorem rdata_readOctets (t : Int) (v : Value) (l : List Wd) (w : World) (hA : WdsAt w v l) (hk : WdsOK l) :
    Calls Tryz.prog 53 #[.int .i64 t, v] w (BytesE (octetsD t l).1 (octetsD t l).2 w) := by
  have hK := fun W => rtype_Known t W
  have hcs : ((knownM t = true ∧ ((t == 1) = true ∨ ((t == 1) = false ∧ (t == 28) = true))) ∨ (knownM t = false ∧ (t == 1) = false ∧ (t == 28) = false)) ∨ (knownM t = true ∧ (t == 1) = false ∧ (t == 28) = false) := by
    by_cases h1 : t = 1
    · subst h1; exact .inl (.inl ⟨by decide, .inl rfl⟩)
    by_cases h2 : t = 28
    · subst h2; exact .inl (.inl ⟨by decide, .inr ⟨rfl, rfl⟩⟩)
    · have e1 : (t == 1) = false := by simpa using h1
      have e2 : (t == 28) = false := by simpa using h2
      cases h : knownM t with
      | true => exact .inr ⟨rfl, e1, e2⟩
      | false => exact .inl (.inr ⟨rfl, e1, e2⟩)
  rcases hcs with hcs | ⟨hkn, e1, e2⟩
  · have hno : ¬ (knownM t = true ∧ ¬ (t = 1 ∨ t = 28)) := by
      rcases hcs with ⟨_, h | ⟨_, h⟩⟩ | ⟨h, _⟩
      · simp at h; simp [h]
      · simp at h; simp [h]
      · rw [h]; simp
    cases l with
    | nil =>
      have H0 := Lib.hid (octetsD_nil hno)
      obtain ⟨a, c, rfl, _⟩ := hA
      clear hno hk
      rcases hcs with ⟨hkn, e1 | ⟨e1, e2⟩⟩ | ⟨hkn, e1, e2⟩
      all_goals
        rw [hkn] at hK
        clear hkn
        go_enter Tryz.func53, Tryz.ntmps53
        go_wp2_with (go_at_call 83; refine (hK _).mono ?_; rintro e w1 ⟨rfl, hb1⟩)
        go_ret2
        exact bytesE_fin [] 2 H0.out rfl (OwnG.nil _ _) hb1
    | cons x r =>
      obtain ⟨sl, q⟩ := x
      have HO := Lib.hid (octetsD_cons (t := t) (s := sl) (q := q) (r := r) hno)
      obtain ⟨a, c, rfl, hcap, hnil, hx⟩ := id hA
      rcases hx with hx | ⟨g, off, rfl, hg, hcl⟩
      · cases hx
      have hc1 := (hcl 0 (by simp)).1
      have hc2 := (hcl 0 (by simp)).2
      simp only [Nat.zero_mul, Nat.add_zero, List.getElem_cons_zero] at hc1 hc2
      obtain ⟨s, hs0, hsz, hsv⟩ := str_of sl
      rw [hsv] at hc1
      subst hs0
      clear hno hcl hsv hnil
      have hcl : ∀ W, Below w.heap.size w W → W.cell? ⟨g, off, none⟩ = some (.string s) ∧ W.cell? ⟨g, off + 1, none⟩ = some (.bool q) := fun W hb => ⟨(hb.cell (p := ⟨g, off, none⟩) hg).trans hc1, (hb.cell (p := ⟨g, off + 1, none⟩) hg).trans hc2⟩
      have hsb : s.size ≤ 500000 := by have := hk.2 _ (List.mem_cons_self ..); simpa using this
      have hP := fun W => number_Parse s 4294967295 W (by unfold maxLen; omega) (by omega)
      unfold NumPost at hP
      obtain ⟨n, hn⟩ : ∃ n, r.length = n := ⟨_, rfl⟩
      rw [List.length_cons, hn] at hA hcap ⊢
      have hn0 : (0 : Int) ≤ (n : Int) := by omega
      have hne0 : ((n : Int) + 1 == 0) = false := by simp; omega
      cases q with
      | true =>
        have H0 := Lib.hid (show octetsD t ((s.data.toList, true) :: r) = ([], 2) by rw [HO.out, if_pos rfl])
        clear HO hP hn hk hA hcap
        rcases hcs with ⟨hkn, e1 | ⟨e1, e2⟩⟩ | ⟨hkn, e1, e2⟩
        all_goals
          rw [hkn] at hK
          clear hkn
          go_enter Tryz.func53, Tryz.ntmps53
          go_wp2_with (go_at_call 83; refine (hK _).mono ?_; rintro e w1 ⟨rfl, hb1⟩; obtain ⟨d1, d2⟩ := hcl _ hb1)
          go_ret2
          exact bytesE_fin [] 2 H0.out rfl (OwnG.nil _ _) hb1
      | false =>
        have ho := HO.out
        rw [if_neg (by simp)] at ho
        obtain ⟨⟨cnt, er⟩, hq⟩ : ∃ q, numM s.data.toList 4294967295 = q := ⟨_, rfl⟩
        have hle := numM_le s.data.toList 4294967295
        rw [hq] at hP ho hle
        simp only at hP ho hle
        clear HO hq
        by_cases her : (er != 0) = true
        · have H0 := Lib.hid (show octetsD t ((s.data.toList, false) :: r) = ([], er) by rw [ho, if_pos (by simpa using her)])
          clear ho hn hk hA hcap
          rcases hcs with ⟨hkn, e1 | ⟨e1, e2⟩⟩ | ⟨hkn, e1, e2⟩
          all_goals
            rw [hkn] at hK
            clear hkn
            go_enter Tryz.func53, Tryz.ntmps53
            go_wp2_with (first | (go_at_call 83; refine (hK _).mono ?_; rintro e w1 ⟨rfl, hb1⟩; obtain ⟨d1, d2⟩ := hcl _ hb1) | (go_at_call 84; refine (hP _).mono ?_; rintro e w2 ⟨rfl, rfl⟩))
            go_ret2
            exact bytesE_fin [] er H0.out rfl (OwnG.nil _ _) hb1
        have her0 : er = 0 := by simpa using her
        subst her0
        rw [if_neg (by simp)] at ho
        clear her
        by_cases h10 : (1024 : Int) < (cnt : Int)
        · have H0 := Lib.hid (show octetsD t ((s.data.toList, false) :: r) = ([], 3) by rw [ho, if_pos (by omega)])
          clear ho hn hk hA hcap
          rcases hcs with ⟨hkn, e1 | ⟨e1, e2⟩⟩ | ⟨hkn, e1, e2⟩
          all_goals
            rw [hkn] at hK
            clear hkn
            go_enter Tryz.func53, Tryz.ntmps53
            go_wp2_with (first | (go_at_call 83; refine (hK _).mono ?_; rintro e w1 ⟨rfl, hb1⟩; obtain ⟨d1, d2⟩ := hcl _ hb1) | (go_at_call 84; refine (hP _).mono ?_; rintro e w2 ⟨rfl, rfl⟩))
            go_ret2
            exact bytesE_fin [] 3 H0.out rfl (OwnG.nil _ _) hb1
        rw [if_neg (by omega)] at ho
        have hkr : WdsOK r := by have := hk.drop 1; simpa using this
        have hH := fun W v (h : WdsAt W v r) => rdata_readHalves v r W h hkr
        have hdr : WdsAt w (.slice (if c = 1 then some ⟨g, off, none⟩ else some ⟨g, off + 2, none⟩) n (c - 1)) r := by
          have := WdsAt.drop hA (by simp [hn]) (by omega)
          simpa using this
        have hd1 : ∀ W, Below w.heap.size w W → c = 1 → WdsAt W (.slice (some ⟨g, off, none⟩) n 0) r := fun W hb h => by
          have := hdr.below hb; rw [if_pos h, h] at this; exact this
        have hd2 : ∀ W, Below w.heap.size w W → ¬ c = 1 → WdsAt W (.slice (some ⟨g, off + 2, none⟩) n (c - 1)) r := fun W hb h => by
          have := hdr.below hb; rw [if_neg h] at this; exact this
        have HD1 := Lib.hid hd1; have HD2 := Lib.hid hd2
        have hhl := halvesL_len r hkr
        have HO := Lib.hid ho; have HN := Lib.hid hn
        clear ho hn hk hd1 hd2 hdr hkr hA
        rcases hcs with ⟨hkn, e1 | ⟨e1, e2⟩⟩ | ⟨hkn, e1, e2⟩
        all_goals
          rw [hkn] at hK
          clear hkn
          go_enter Tryz.func53, Tryz.ntmps53
          go_wp2_with (first | (go_at_call 83; refine (hK _).mono ?_; rintro e w1 ⟨rfl, hb1⟩; obtain ⟨d1, d2⟩ := hcl _ hb1) | (go_at_call 84; refine (hP _).mono ?_; rintro e w2 ⟨rfl, rfl⟩))
          all_goals
            refine (hH _ _ ?wd).mono ?_
            case wd => first | exact HD1.out _ hb1 (by assumption) | exact HD2.out _ hb1 (by assumption)
            rintro e w3 ⟨vh, rfl, hownh, hb3⟩
            have hb13 := hb1.trans (hb3.mono hb1.size)
            clear d1 d2
            cases hv : halvesOK r with
            | false =>
              have H0 := Lib.hid (show octetsD t ((s.data.toList, false) :: r) = ([], 2) by rw [HO.out, if_pos (.inl hv)])
              clear hv HO hownh
              go_wp2
              go_ret2
              exact bytesE_fin [] 2 H0.out rfl (OwnG.nil _ _) hb13
            | true =>
              rw [hv, if_pos rfl] at hownh
              obtain ⟨ah, ch, rfl⟩ := hownh.shape
              obtain ⟨hl, hhl0⟩ : ∃ hl, (halvesL r).length = hl := ⟨_, rfl⟩
              rw [hhl0] at hownh hhl ⊢
              by_cases hlc : hl = 2 * cnt
              · have htest : ((hl : Int) != 2 * (cnt : Int)) = false := by simp; omega
                have HO2 := Lib.hid (show octetsD t ((s.data.toList, false) :: r) = if t = 1 ∧ cnt ≠ 4 ∨ t = 28 ∧ cnt ≠ 16 then ([], 2) else (pairUp (halvesL r), 0) by
                  rw [HO.out, if_neg]; rintro (h | h); (rw [hv] at h; cases h); exact h (by rw [hhl0]; exact hlc))
                have HL := Lib.hid (show (halvesL r).length = 2 * cnt by rw [hhl0]; exact hlc)
                have HLC := Lib.hid hlc
                clear hhl0 hv HO hlc hhl
                go_wp2_with (at_make; refine wpl_make_g (α := UInt8) (enc := bv) w3 rfl _ _ elemU8 rfl w3.heap.size .i64 .i64 _ cnt rfl rfl rfl (by omega) (by unfold maxLen; omega) (Nat.le_refl _) ?_; intro w4 hown4 hg4; have hB4 : Below w3.heap.size w3 w4 := (Below.refl _ w3).grown hg4 (Nat.le_refl _) (by simp))
                go_loopw [11, 65] (fun u i wr => ∃ (k : Nat) (xs : List UInt8), i = .int .i64 k ∧ k ≤ cnt ∧ OwnG 5 bv wr w3.heap.size u xs ∧ Below w3.heap.size w3 wr ∧ Hid (xs = pairUp ((halvesL r).take (2 * k)))) (fun _ i _ => cnt - (intOf i).toNat)
                case atStart => exact ⟨0, [], rfl, Nat.zero_le _, hown4, hB4, Lib.hid rfl⟩
                case round =>
                  obtain ⟨k, xs, rfl, hk0, hown, hB, HX⟩ := hrel
                  have hBz := hB.size
                  by_cases hlt : k < cnt
                  · have hll : 2 * k + 1 < (halvesL r).length := by rw [HL.out]; omega
                    have hne : halvesL r ≠ [] := by intro e; rw [e] at hll; simp at hll
                    obtain ⟨gh, rfl, hgb, hgl, hcg⟩ := hownh.cells hne
                    obtain ⟨x1, x2, q1, q2, l1, l2, hx2⟩ : ∃ x1 x2 : UInt8, wr.cell? ⟨gh, 2 * k, none⟩ = some (.int .u8 (x1.toNat : Int)) ∧ wr.cell? ⟨gh, 2 * k + 1, none⟩ = some (.int .u8 (x2.toNat : Int)) ∧ x1.toNat < 16 ∧ x2.toNat < 16 ∧ xs ++ [UInt8.ofNat (16 * x1.toNat + x2.toNat)] = pairUp ((halvesL r).take (2 * (k + 1))) :=
                      ⟨(halvesL r)[2 * k], (halvesL r)[2 * k + 1], (hB.cell (p := ⟨gh, 2 * k, none⟩) hgl).trans (hcg (2 * k) (by omega)), (hB.cell (p := ⟨gh, 2 * k + 1, none⟩) hgl).trans (hcg (2 * k + 1) hll), halves_lt (List.getElem_mem _), halves_lt (List.getElem_mem _), by rw [HX.out]; exact (pairUp_snoc k _ hll).symm⟩
                    have HX2 := Lib.hid hx2
                    obtain ⟨au, cu, rfl⟩ := hown.shape
                    have hxl : xs.length ≤ 1024 := by
                      rw [HX.out, pairUp_len k _ (by rw [List.length_take]; omega)]; omega
                    obtain ⟨dl, hdl⟩ : ∃ dl, xs.length = dl := ⟨_, rfl⟩
                    have hown2 : wr.ownsRow w3.heap.size 5 1 (.slice au dl cu) dl (xs.map bv) := by rw [← hdl]; exact hown
                    rw [hdl] at hown hxl ⊢
                    have hag : (Value.slice au dl cu).ownBlock ≠ some gh := fun e => by have := hown.base_le gh e; omega
                    have HDL := Lib.hid hdl
                    have HOB := Lib.hid hown.base_le
                    have i1 : (2 : Int) * (k : Int) < (hl : Int) := by have := HLC.out; omega
                    have i2 : (2 : Int) * (k : Int) + 1 < (hl : Int) := by have := HLC.out; omega
                    have hglw : gh < wr.heap.size := by omega
                    clear hcg hll hne hx2 hdl hown
                    obtain ⟨i0, hi, hz0, hz1, hz2⟩ := info_parts info_u8
                    have hk0' : (0 : Int) ≤ 2 * (k : Int) := by omega
                    have hk1' : (0 : Int) ≤ 2 * (k : Int) + 1 := by omega
                    have ht1 : (2 * (k : Int)).toNat = 2 * k := by omega
                    have ht2 : (2 * (k : Int) + 1).toNat = 2 * k + 1 := by omega
                    have hw1 : IntKind.i64.wrap (2 * (k : Int)) = 2 * (k : Int) := IntWalk.i64_in _ (by omega)
                    have hw2 : IntKind.i64.wrap (2 * (k : Int) + 1) = 2 * (k : Int) + 1 := IntWalk.i64_in _ (by omega)
                    go_wp2
                    go_region_held3 (fun w' => w'.cell? ⟨gh, 2 * k, none⟩ = some (.int .u8 (x1.toNat : Int)) ∧ w'.cell? ⟨gh, 2 * k + 1, none⟩ = some (.int .u8 (x2.toNat : Int)))
                      (first
                        | go_keep
                        | (go_split_ands
                           refine ⟨?_, ?_⟩
                           · (rw [hgrow.cell_far _ (by simp; omega) (Ne.symm hag)]; assumption)
                           · (rw [hgrow.cell_far _ (by simp; omega) (Ne.symm hag)]; assumption)))
                      ((refine step_append_lies _ (by rfl) _ _ _ (by rfl) w3.heap.size 5 i0 (.int .u8 0) 1 1 Tryz.underlying25 hi hz0 hz1 hz2 rfl (by omega) (.slice au dl cu) dl (xs.map bv) (by rfl) ((hown2.alloc _).drew)
                            ⟨wr.heap.size, 0, none⟩ 1 1 [.int .u8 _] (by rfl) (by rfl) (World.news_of_block (cs := #[.int .u8 _]) (t := 5) (fr := (0, 0)) (heap_alloc_new wr _)) (by simp [Value.oneCell'])
                            (by omega) (by unfold maxLen; omega) (by omega) (by simp; omega) (wr.heap.size + 1) (by simp) ?_; intro gg cap w5 hown5 hgrow hat hlt5))
                    clear hw1 hw2 ht1 ht2 hk0' hk1'
                    have hB5 : Below w3.heap.size w3 w5 := hB.trans (((Below.refl _ wr).alloc hBz _).drew |>.grown hgrow (by simp; omega) (fun k e => by have := HOB.out k e; omega))
                    have hown6 : OwnG 5 bv w5 w3.heap.size (.slice (some ⟨gg, 0, none⟩) (dl + 1) cap) (xs ++ [UInt8.ofNat (16 * x1.toNat + x2.toNat)]) := by
                      unfold OwnG
                      rw [List.length_append, HDL.out, List.map_append]
                      have e0 : [Value.int .u8 (bits .or .u8 (IntKind.u8.wrap ((x1.toNat : Int) * 16)) (x2.toNat : Int))] = [UInt8.ofNat (16 * x1.toNat + x2.toNat)].map bv := nibbles x1 x2 l1 l2
                      rw [← e0]
                      exact hown5
                    go_wp2
                    go_roundw
                    case rel => exact ⟨k + 1, _, by go_num, by omega, hown6, hB5, HX2⟩
                    case measure => simp [intOf]; omega
                  · obtain rfl : k = cnt := by omega
                    have hxe : xs = pairUp (halvesL r) := by rw [HX.out, List.take_of_length_le (by rw [HL.out]; exact Nat.le_refl _)]
                    have hxl : xs.length = k := by rw [hxe]; exact pairUp_len k _ HL.out
                    have hB1 : Below w.heap.size w wr := hb13.trans (hB.mono hb13.size)
                    obtain ⟨au, cu, rfl⟩ := hown.shape
                    rw [hxl] at hown ⊢
                    have hown6 := hown.weaken hb13.size
                    have hC := fun (ht : t = 1 ∨ t = 28) => rdata_counted (.agg #[.int .i64 t, .slice none 0 0, .slice none 0 0, .slice none 0 0, .slice au k cu]) ⟨t, [], [], [], xs⟩ wr ⟨_, _, _, _, rfl, NmsAt.nil _, SlAt.nil _, nm_nil _, SlAt.of_own hown⟩
                    have hca := fun h => counted_addr t xs h
                    rw [hxl] at hca
                    have HXE := Lib.hid hxe
                    clear hxe hxl HX hownh
                    by_cases hbad : t = 1 ∧ k ≠ 4 ∨ t = 28 ∧ k ≠ 16
                    · have H0 := Lib.hid (show octetsD t ((s.data.toList, false) :: r) = ([], 2) by rw [HO2.out, if_pos hbad])
                      have ht : t = 1 ∨ t = 28 := by omega
                      replace hC := hC ht
                      rw [hca ht, decide_eq_false (fun h => h hbad)] at hC
                      clear hca hbad HO2
                      first
                        | (exfalso; simp at e1 e2; omega)
                        | (clear ht
                           go_wp2_with (go_at_call 25; refine hC.mono ?_; rintro e w6 ⟨rfl, hb6⟩)
                           go_ret2
                           exact bytesE_fin [] 2 H0.out rfl (OwnG.nil _ _) (hB1.trans (hb6.mono hB1.size)))
                    · have H0 := Lib.hid (show octetsD t ((s.data.toList, false) :: r) = (xs, 0) by rw [HO2.out, if_neg hbad, HXE.out])
                      have hC2 := fun ht : t = 1 ∨ t = 28 => by have := hC ht; rw [hca ht, decide_eq_true hbad] at this; exact this
                      first
                        | (have hC3 := hC2 (by simp at e1; omega)
                           clear hca hbad HO2 hC hC2
                           go_wp2_with (go_at_call 25; refine hC3.mono ?_; rintro e w6 ⟨rfl, hb6⟩)
                           go_ret2
                           exact bytesE_fin xs 0 H0.out rfl (hown6.below (hb6.mono (Nat.le_refl _))) (hB1.trans (hb6.mono hB1.size)))
                        | (have hC3 := hC2 (by simp at e2; omega)
                           clear hca hbad HO2 hC hC2
                           go_wp2_with (go_at_call 25; refine hC3.mono ?_; rintro e w6 ⟨rfl, hb6⟩)
                           go_ret2
                           exact bytesE_fin xs 0 H0.out rfl (hown6.below (hb6.mono (Nat.le_refl _))) (hB1.trans (hb6.mono hB1.size)))
                        | (clear hca hbad HO2 hC hC2
                           go_wp2
                           go_ret2
                           exact bytesE_fin xs 0 H0.out rfl hown6 hB1)
              · have htest : ((hl : Int) != 2 * (cnt : Int)) = true := by simp; omega
                have H0 := Lib.hid (show octetsD t ((s.data.toList, false) :: r) = ([], 2) by rw [HO.out, if_pos (.inr (by rw [hhl0]; exact hlc))])
                clear hhl0 hv HO hlc hhl hownh
                go_wp2
                go_ret2
                exact bytesE_fin [] 2 H0.out rfl (OwnG.nil _ _) hb13
  · have H0 := Lib.hid (octetsD_known (l := l) hkn (by simp at e1 e2; simp [e1, e2]))
    obtain ⟨a, c, rfl, _⟩ := hA
    rw [hkn] at hK
    clear hkn hk
    go_enter Tryz.func53, Tryz.ntmps53
    go_wp2_with (go_at_call 83; refine (hK _).mono ?_; rintro e w1 ⟨rfl, hb1⟩)
    go_ret2
    exact bytesE_fin [] 6 H0.out rfl (OwnG.nil _ _) hb1
end Go.Proofs.YtkjmghnbcnbdbaaGreatDoor

