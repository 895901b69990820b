/-
  gen.Put: what stands at each octet, and the walk.
-/
import Derived.Test.YtgalihmmlcnahaaDoorGenG
import Derived.Lib.AppendStr
namespace Go.Proofs.YtgalihmmlcnahaaDoor
open Go.RowKit Go.Shelf Go.Sort
set_option maxRecDepth 20000
set_option linter.unusedVariables false
set_option linter.unusedSimpArgs false

/-- What stands at octet i: its octets in the answer, how many octets it takes, an Errno. -/
def pieceM (br : Nat → List UInt8 × Nat × Nat) (num : List UInt8) (i : Nat) (rest : List UInt8) : List UInt8 × Nat × Nat :=
  if Lib.hasPrefix rest [92, 36] then ([92, 36], 2, 0)
  else if Lib.hasPrefix rest [36, 36] then ([36], 2, 0)
  else if Lib.hasPrefix rest [36, 123] then br i
  else if rest.head? = some 36 then (num, 1, 0)
  else (rest.take 1, 1, 0)
def putM (br : Nat → List UInt8 × Nat × Nat) (num : List UInt8) (l : List UInt8) : Nat → Nat → List UInt8 → List UInt8 × Nat
  | 0, _, acc => (acc, 0)
  | f + 1, i, acc => if i < l.length then (if (pieceM br num i (l.drop i)).2.2 ≠ 0 then ([], (pieceM br num i (l.drop i)).2.2) else putM br num l f (i + (pieceM br num i (l.drop i)).2.1) (acc ++ (pieceM br num i (l.drop i)).1)) else (acc, 0)
theorem putM_end {br : Nat → List UInt8 × Nat × Nat} {num l acc : List UInt8} (f i : Nat) (h : ¬ i < l.length) : putM br num l f i acc = (acc, 0) := by
  cases f with
  | zero => rfl
  | succ f => rw [putM, if_neg h]
theorem putM_step {br : Nat → List UInt8 × Nat × Nat} {num l acc p : List UInt8} {f i sz : Nat} (h : i < l.length) (hp : pieceM br num i (l.drop i) = (p, sz, 0)) : putM br num l (f + 1) i acc = putM br num l f (i + sz) (acc ++ p) := by
  rw [putM, if_pos h, hp, if_neg (by simp)]
theorem putM_err {br : Nat → List UInt8 × Nat × Nat} {num l acc p : List UInt8} {f i sz e : Nat} (h : i < l.length) (hp : pieceM br num i (l.drop i) = (p, sz, e)) (he : e ≠ 0) : putM br num l (f + 1) i acc = ([], e) := by
  rw [putM, if_pos h, hp, if_pos (by simpa using he)]
theorem hasPrefix_size {l : List UInt8} {a b : UInt8} (h : Lib.hasPrefix l [a, b] = true) : 2 ≤ l.length := by
  rcases l with _ | ⟨x, _ | ⟨y, l⟩⟩
  · exact absurd h (by simp [Lib.hasPrefix])
  · exact absurd h (by simp [Lib.hasPrefix])
  · simp
theorem wpl_append_bs {ops : Array Oper} {rest : List Oper} {o : Oper} {a : Act} {Q : Exit → Act → World → Prop} (W : World) (hgd : o.guard = none) (sl x : Operand)
    (ho : o.op = .call { callee := .builtin .append, args := #[sl, x], argTypes := #[57, 9] })
    (base : Nat) (v : Value) (xs : List UInt8) (hs : a.eval sl = v) (hown : OwnU8 W base v xs) (s : ByteArray) (hx : a.eval x = .string s)
    (hbase : base ≤ W.heap.size) (hk : xs.length + s.size ≤ 140737488355328)
    (h : ∀ v' w', OwnU8 w' base v' (xs ++ s.data.toList) → W.grownBy w' v.ownBlock → wpList Tryd.prog ops Q rest (a.put o.dst v') w') : wpList Tryd.prog ops Q (o :: rest) a W := by
  obtain ⟨i0, hi, hz0, hz1, hz2⟩ := info_parts info_u8
  refine Lib.wpList_append_own_string W hgd sl x 57 9 ho base 5 i0 Tryd.underlying57 Tryd.underlying9 hi hz0 hz1 hz2 v xs.length (xs.map bv) hs hown s hx (by unfold maxLen; omega) hk hbase ?_
  intro v' w' h1 h2 _
  refine h v' w' ?_ h2
  unfold OwnU8
  rw [List.length_append, List.map_append]
  exact h1

set_option maxHeartbeats 4000000 in
theorem gen_Put (s : ByteArray) (n : Int) (br : Nat → List UInt8 × Nat × Nat) (num : List UInt8) (T : World → Prop) (hT : ∀ W W', T W → Below W.heap.size W W' → T W') (hs : s.size < 1000)
    (hbr : ∀ i W, i < s.size → T W → Lib.hasPrefix (s.data.toList.drop i) [36, 123] = true → Calls Tryd.prog 19 #[.string (s.extract i s.size), .int .i64 n] W fun e w' => e = .returned (.tuple #[.string ⟨(br i).1.toArray⟩, .int .i64 (((br i).2.1 : Nat) : Int), .int .i64 (((br i).2.2 : Nat) : Int)]) ∧ Below W.heap.size W w')
    (hbr2 : ∀ i, i < s.size → Lib.hasPrefix (s.data.toList.drop i) [36, 123] = true → (br i).2.2 = 0 → 1 ≤ (br i).2.1 ∧ i + (br i).2.1 ≤ s.size ∧ (br i).1.length ≤ 100)
    (hnum : ∀ W, T W → Calls Tryd.prog 20 #[.int .i64 n] W fun e w' => e = .returned (.string ⟨num.toArray⟩) ∧ Below W.heap.size W w') (hnl : num.length ≤ 100)
    (w : World) (hw : T w) :
    Calls Tryd.prog 12 #[.string s, .int .i64 n] w fun e w' => e = .returned (.tuple #[.string ⟨(putM br num s.data.toList (s.size + 1) 0 []).1.toArray⟩, .int .i64 (((putM br num s.data.toList (s.size + 1) 0 []).2 : Nat) : Int)]) ∧ Below w.heap.size w w' := by
  obtain ⟨R, hR⟩ : ∃ R, putM br num s.data.toList (s.size + 1) 0 [] = R := ⟨_, rfl⟩
  rw [hR]
  have HR := Lib.hid hR
  have HB := Lib.hid hbr
  have HB2 := Lib.hid hbr2
  have HN := Lib.hid hnum
  have HT := Lib.hid hT
  have hq0 := Lib.hid hw
  clear hR hbr hbr2 hnum hT hw
  go_enter Tryd.func12, Tryd.ntmps12
  go_wp2
  go_loopw [6, 7] (fun v i wr => ∃ (f k : Nat) (acc : List UInt8), i = .int .i64 k ∧ k ≤ s.size ∧ acc.length ≤ 100 * k ∧ OwnU8 wr w.heap.size v acc ∧ Below w.heap.size w wr ∧ Hid (s.size < k + f ∧ putM br num s.data.toList f k acc = R)) (fun _ i _ => s.size - (intOf i).toNat)
  case atStart => exact ⟨s.size + 1, 0, [], rfl, Nat.zero_le _, Nat.zero_le _, OwnU8.nil _ _, Below.refl _ _, Lib.hid ⟨by omega, HR.out⟩⟩
  case round =>
    obtain ⟨f, k, acc, rfl, hk, hacc, hown, hB, HJ⟩ := hrel
    by_cases hlt : k < s.size
    · obtain ⟨g, rfl⟩ : ∃ g, f = g + 1 := ⟨f - 1, by have := HJ.out.1; omega⟩
      have hTw := HT.out _ _ hq0.out hB
      obtain ⟨rs, hrs⟩ : ∃ rs, s.extract k s.size = rs := ⟨_, rfl⟩
      have hrd : rs.data.toList = s.data.toList.drop k := by
        rw [← hrs, extract_data s k s.size (Nat.le_refl _), List.take_of_length_le (by rw [size_data]; exact Nat.le_refl _)]
      have hrz : rs.size = s.size - k := by rw [← size_data, hrd, List.length_drop, size_data]
      have hz1 : (1 : Int) ≤ (rs.size : Int) := by omega
      have hz0 : (0 : Int) < (rs.size : Int) := by omega
      have hki : (k : Int) ≤ (s.size : Int) := by omega
      have hki2 : (k : Int) < (s.size : Int) := by omega
      have hP : ∀ (p : List UInt8) (W : World), Calls Tryd.prog 18 #[.string rs, .string ⟨p.toArray⟩] W fun e w' => e = .returned (.bool (Lib.hasPrefix (s.data.toList.drop k) p)) ∧ w' = W := fun p W => by
        have h := Tryd.strings_HasPrefix rs ⟨p.toArray⟩ W
        rw [hrd] at h
        exact h
      obtain ⟨r1, hr1⟩ : ∃ r1, rs.extract 0 1 = r1 := ⟨_, rfl⟩
      have hP1 := hP [92, 36]
      have hP2 := hP [36, 36]
      have hP3 := hP [36, 123]
      clear hP
      cases hb1 : Lib.hasPrefix (s.data.toList.drop k) [92, 36] with
      | true =>
        rw [hb1] at hP1
        have hl2 := hasPrefix_size hb1
        rw [List.length_drop, size_data] at hl2
        have HJ2 := Lib.hid (putM_step (br := br) (num := num) (acc := acc) (f := g) (sz := 2) (p := [92, 36]) (i := k) (l := s.data.toList) (by rw [size_data]; exact hlt) (by unfold pieceM; rw [if_pos hb1]))
        have HG := Lib.hid hB.size
        clear hb1 hrd hP2 hP3
        go_wp2_with (first | (go_at_call 18; refine (hP1 _).mono ?_; rintro e w2 ⟨rfl, rfl⟩) | (at_builtin; refine wpl_append_bs _ rfl (.tmp 46) (.tmp 47) rfl w.heap.size _ acc rfl hown ⟨#[92, 36]⟩ rfl HG.out (by show acc.length + 2 ≤ _; omega) ?_; intro v2 w2 hown2 hg2; have hB2 := hB.grown hg2 HG.out hown.base_le; clear hg2))
        go_roundw
        case rel => exact ⟨g, k + 2, acc ++ [92, 36], by go_num, by omega, by simp; omega, hown2, hB2, Lib.hid ⟨by have := HJ.out.1; omega, HJ2.out ▸ HJ.out.2⟩⟩
        case measure => simp [intOf]; omega
      | false =>
        rw [hb1] at hP1
        cases hb2 : Lib.hasPrefix (s.data.toList.drop k) [36, 36] with
        | true =>
          rw [hb2] at hP2
          have hl2 := hasPrefix_size hb2
          rw [List.length_drop, size_data] at hl2
          have HJ2 := Lib.hid (putM_step (br := br) (num := num) (acc := acc) (f := g) (sz := 2) (p := [36]) (i := k) (l := s.data.toList) (by rw [size_data]; exact hlt) (by unfold pieceM; rw [if_neg (by rw [hb1]; simp), if_pos hb2]))
          have HG := Lib.hid hB.size
          clear hb1 hb2 hrd hP3
          go_wp2_with (first | (go_at_call 18; first | (with_reducible refine (hP1 _).mono ?_; rintro e w2 ⟨rfl, rfl⟩) | (with_reducible refine (hP2 _).mono ?_; rintro e w2 ⟨rfl, rfl⟩)) | (at_builtin; refine wpl_append_bs _ rfl (.tmp 46) (.tmp 47) rfl w.heap.size _ acc rfl hown ⟨#[36]⟩ rfl HG.out (by show acc.length + 1 ≤ _; omega) ?_; intro v2 w2 hown2 hg2; have hB2 := hB.grown hg2 HG.out hown.base_le; clear hg2))
          go_roundw
          case rel => exact ⟨g, k + 2, acc ++ [36], by go_num, by omega, by simp; omega, hown2, hB2, Lib.hid ⟨by have := HJ.out.1; omega, HJ2.out ▸ HJ.out.2⟩⟩
          case measure => simp [intOf]; omega
        | false =>
          rw [hb2] at hP2
          cases hb3 : Lib.hasPrefix (s.data.toList.drop k) [36, 123] with
          | true =>
            rw [hb3] at hP3
            obtain ⟨⟨p, sz, er⟩, hpe⟩ : ∃ q, br k = q := ⟨_, rfl⟩
            have hBr := HB.out k wr hlt hTw hb3
            have hBr2 := HB2.out k hlt hb3
            rw [hrs, hpe] at hBr
            rw [hpe] at hBr2
            have hpc : pieceM br num k (s.data.toList.drop k) = (p, sz, er) := by unfold pieceM; rw [if_neg (by rw [hb1]; simp), if_neg (by rw [hb2]; simp), if_pos hb3, hpe]
            simp only at hBr
            by_cases her : er = 0
            · subst her
              obtain ⟨ha, hb, hc⟩ := hBr2 rfl
              simp only at ha hb hc
              have HJ2 := Lib.hid (putM_step (br := br) (num := num) (acc := acc) (f := g) (i := k) (l := s.data.toList) (by rw [size_data]; exact hlt) hpc)
              obtain ⟨P, hPd⟩ : ∃ P : ByteArray, (⟨p.toArray⟩ : ByteArray) = P := ⟨_, rfl⟩
              rw [hPd] at hBr
              have hPl : P.data.toList = p := by rw [← hPd]
              have hPz : P.size = p.length := by rw [← size_data, hPl]
              have HPl := Lib.hid hPl
              have HPz := Lib.hid hPz
              have HG := Lib.hid hB.size
              have hc0 : ((0 : Nat) : Int) = 0 := rfl
              rw [hc0] at hBr
              clear hb1 hb2 hb3 hrd hBr2 hpe hpc hPd hPl hPz hc0
              go_wp2_with (first | (go_at_call 18; first | (with_reducible refine (hP1 _).mono ?_; rintro e w2 ⟨rfl, rfl⟩) | (with_reducible refine (hP2 _).mono ?_; rintro e w2 ⟨rfl, rfl⟩) | (with_reducible refine (hP3 _).mono ?_; rintro e w2 ⟨rfl, rfl⟩)) | (go_at_call 19; refine hBr.mono ?_; rintro e w3 ⟨rfl, hb3⟩; have hown3 : OwnU8 w3 w.heap.size _ acc := World.ownsRow.kept (row := none) hown ⟨hb3.os, hb3.tape, hb3.output, hb3.size, fun j hj _ => hb3.block j hj⟩ (Classical.em _); have hB3 := hB.trans (hb3.mono HG.out); have HG3 := Lib.hid hB3.size) | (at_builtin; refine wpl_append_bs _ rfl (.tmp 46) (.tmp 47) rfl w.heap.size _ acc rfl hown3 P rfl HG3.out (by rw [HPz.out]; omega) ?_; intro v2 w2 hown2 hg2; have hB2 := hB3.grown hg2 HG3.out hown3.base_le; rw [HPl.out] at hown2; clear hg2))
              go_roundw
              case rel => exact ⟨g, k + sz, acc ++ p, by go_num, by omega, by simp; omega, hown2, hB2, Lib.hid ⟨by have := HJ.out.1; omega, HJ2.out ▸ HJ.out.2⟩⟩
              case measure => simp [intOf]; omega
            · have HJ2 := Lib.hid (putM_err (br := br) (num := num) (acc := acc) (f := g) (i := k) (l := s.data.toList) (by rw [size_data]; exact hlt) hpc her)
              have her1 : ¬ ((er : Int) = 0) := by omega
              have HG := Lib.hid hB.size
              clear hb1 hb2 hb3 hrd hBr2 hpe hpc her
              go_wp2_with (first | (go_at_call 18; first | (with_reducible refine (hP1 _).mono ?_; rintro e w2 ⟨rfl, rfl⟩) | (with_reducible refine (hP2 _).mono ?_; rintro e w2 ⟨rfl, rfl⟩) | (with_reducible refine (hP3 _).mono ?_; rintro e w2 ⟨rfl, rfl⟩)) | (go_at_call 19; refine hBr.mono ?_; rintro e w3 ⟨rfl, hb3⟩))
              go_ret2
              have e := HJ.out.2
              rw [HJ2.out] at e
              rw [← e]
              exact ⟨rfl, hB.trans (hb3.mono HG.out)⟩
          | false =>
            rw [hb3] at hP3
            have hrs0 : 0 < rs.size := by omega
            obtain ⟨c, hc⟩ : ∃ c, rs[0]'hrs0 = c := ⟨_, rfl⟩
            have hcd : s.data.toList.drop k = c :: s.data.toList.drop (k + 1) := by
              have h0 := drop_cons_get rs 0 hrs0
              rw [List.drop_zero, hrd] at h0
              rw [h0, hc]
              congr 1
              rw [List.drop_drop]
            have hr1d : r1.data.toList = [c] := by
              rw [← hr1, extract_data rs 0 1 (by omega), hrd, hcd]
              rfl
            have hr1z : r1.size = 1 := by rw [← size_data, hr1d]; rfl
            have HR1 := Lib.hid hr1d
            have HR1z := Lib.hid hr1z
            have HG := Lib.hid hB.size
            by_cases hd : c = 36
            · subst hd
              have HJ2 := Lib.hid (putM_step (br := br) (num := num) (acc := acc) (f := g) (sz := 1) (p := num) (i := k) (l := s.data.toList) (by rw [size_data]; exact hlt) (by unfold pieceM; rw [if_neg (by rw [hb1]; simp), if_neg (by rw [hb2]; simp), if_neg (by rw [hb3]; simp), if_pos (by rw [hcd]; rfl)]))
              have hIt := HN.out wr hTw
              obtain ⟨P, hPd⟩ : ∃ P : ByteArray, (⟨num.toArray⟩ : ByteArray) = P := ⟨_, rfl⟩
              rw [hPd] at hIt
              have HPl : Hid (P.data.toList = num) := Lib.hid (by rw [← hPd])
              have HPz : Hid (P.size = num.length) := Lib.hid (by rw [← size_data, HPl.out])
              clear hb1 hb2 hb3 hrd hr1d hr1z hcd hPd
              go_wp2_with (first | (go_at_call 18; first | (with_reducible refine (hP1 _).mono ?_; rintro e w2 ⟨rfl, rfl⟩) | (with_reducible refine (hP2 _).mono ?_; rintro e w2 ⟨rfl, rfl⟩) | (with_reducible refine (hP3 _).mono ?_; rintro e w2 ⟨rfl, rfl⟩)) | (go_at_call 20; refine hIt.mono ?_; rintro e w3 ⟨rfl, hb3⟩; have hown3 : OwnU8 w3 w.heap.size _ acc := World.ownsRow.kept (row := none) hown ⟨hb3.os, hb3.tape, hb3.output, hb3.size, fun j hj _ => hb3.block j hj⟩ (Classical.em _); have hB3 := hB.trans (hb3.mono HG.out); have HG3 := Lib.hid hB3.size) | (at_builtin; refine wpl_append_bs _ rfl (.tmp 46) (.tmp 47) rfl w.heap.size _ acc rfl hown3 P rfl HG3.out (by rw [HPz.out]; omega) ?_; intro v2 w2 hown2 hg2; have hB2 := hB3.grown hg2 HG3.out hown3.base_le; rw [HPl.out] at hown2; clear hg2))
              go_roundw
              case rel => exact ⟨g, k + 1, acc ++ num, by go_num, by omega, by simp; omega, hown2, hB2, Lib.hid ⟨by have := HJ.out.1; omega, HJ2.out ▸ HJ.out.2⟩⟩
              case measure => simp [intOf]; omega
            · have HJ2 := Lib.hid (putM_step (br := br) (num := num) (acc := acc) (f := g) (sz := 1) (p := [c]) (i := k) (l := s.data.toList) (by rw [size_data]; exact hlt) (by unfold pieceM; rw [if_neg (by rw [hb1]; simp), if_neg (by rw [hb2]; simp), if_neg (by rw [hb3]; simp), if_neg (by rw [hcd]; simpa using hd), hcd]; rfl))
              have hd2 : ¬ ((c.toNat : Int) = 36) := fun e => hd (UInt8.toNat_inj.1 (by simpa using Int.ofNat.inj e))
              clear hb1 hb2 hb3 hrd hr1d hr1z hcd
              go_wp2_with (first | (go_at_call 18; first | (with_reducible refine (hP1 _).mono ?_; rintro e w2 ⟨rfl, rfl⟩) | (with_reducible refine (hP2 _).mono ?_; rintro e w2 ⟨rfl, rfl⟩) | (with_reducible refine (hP3 _).mono ?_; rintro e w2 ⟨rfl, rfl⟩)) | (at_builtin; refine wpl_append_bs _ rfl (.tmp 46) (.tmp 47) rfl w.heap.size _ acc rfl hown r1 rfl HG.out (by rw [HR1z.out]; omega) ?_; intro v2 w2 hown2 hg2; have hB2 := hB.grown hg2 HG.out hown.base_le; rw [HR1.out] at hown2; clear hg2))
              go_roundw
              case rel => exact ⟨g, k + 1, acc ++ [c], by go_num, by omega, by simp; omega, hown2, hB2, Lib.hid ⟨by have := HJ.out.1; omega, HJ2.out ▸ HJ.out.2⟩⟩
              case measure => simp [intOf]; omega
    · obtain rfl : k = s.size := by omega
      have hcv := hown.string
      have HE := Lib.hid (putM_end (br := br) (num := num) (acc := acc) (l := s.data.toList) f s.size (by rw [size_data]; omega))
      go_wp2
      go_ret2
      have e := HJ.out.2
      rw [HE.out] at e
      rw [← e]
      exact ⟨rfl, hB⟩
end Go.Proofs.YtgalihmmlcnahaaDoor
