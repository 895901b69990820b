/-
  The law's words: a text taken apart at its blanks, but of quotes.
-/
import Derived.Test.YtkjmghnbcnbdbaaGreatDoorDatBP
import Derived.Test.YtkjmghnbcnbdbaaGreatDoorMQ37
namespace Go.Proofs.YtkjmghnbcnbdbaaGreatDoor
open Go.RowKit Go.Shelf
set_option maxRecDepth 20000

/-- A row of words of the call's own. -/
def OwnW (W : World) (base : Nat) (v : Value) (ws : List Wd) : Prop := W.ownsRow base 52 2 v ws.length (wdF ws)
theorem OwnW.nil (W : World) (base : Nat) : OwnW W base (.slice none 0 0) [] := World.ownsRow_nil _ _ _ _
theorem OwnW.alloc {W : World} {base : Nat} {v : Value} {ws : List Wd} (h : OwnW W base v ws) (o : Obj) : OwnW (W.alloc o) base v ws := World.ownsRow.alloc h o
theorem OwnW.base_le {W : World} {base : Nat} {v : Value} {ws : List Wd} (h : OwnW W base v ws) : ∀ k, v.ownBlock = some k → base ≤ k := by
  intro k hk
  rcases h.2 with ⟨rfl, _⟩ | ⟨g, cap, cur, rfl, hb, _⟩
  · simp [Value.ownBlock] at hk
  · obtain rfl : g = k := by simpa [Value.ownBlock] using hk
    exact hb
theorem OwnW.shape {W : World} {base : Nat} {v : Value} {ws : List Wd} (h : OwnW W base v ws) : ∃ a c, v = .slice a ws.length c := by
  rcases h.2 with ⟨rfl, h0⟩ | ⟨g, cap, cur, rfl, _⟩
  · exact ⟨none, 0, by rw [h0]⟩
  · exact ⟨_, _, rfl⟩
theorem OwnW.wds {W : World} {base : Nat} {v : Value} {ws : List Wd} (h : OwnW W base v ws) : WdsAt W v ws := by
  rcases h.2 with ⟨rfl, h0⟩ | ⟨g, cap, cur, rfl, hb, hg, hc, hm, hsz, htk⟩
  · obtain rfl := List.eq_nil_of_length_eq_zero h0
    exact ⟨none, 0, rfl, Nat.le_refl _, fun _ => rfl, .inl rfl⟩
  · refine ⟨_, _, rfl, hc, by simp, .inr ⟨g, 0, rfl, (Array.getElem?_eq_some_iff.1 hg).1, fun j hj => ?_⟩⟩
    obtain ⟨h1, h2⟩ := wdF_get ws j hj
    have cell : ∀ (i : Nat) (u : Value), (wdF ws)[i]? = some u → W.cell? ⟨g, i, none⟩ = some u := by
      intro i u hu
      have : (cur.toList.take (ws.length * 2))[i]? = some u := by rw [htk]; exact hu
      rw [List.getElem?_take] at this
      split at this
      · simp only [World.cell?, hg]
        simpa using this
      · cases this
    rw [Nat.zero_add]
    exact ⟨cell _ _ h1, cell _ _ h2⟩
theorem wdF_snoc (ws : List Wd) (x : Wd) : wdF (ws ++ [x]) = wdF ws ++ [strV x.1, .bool x.2] := by simp [wdF]
theorem elemWd : Tryz.prog.underlying 46 = some (.slice 52) ∧ ∃ i z, Tryz.prog.info? 52 = some i ∧ i.zero = some z ∧ i.size = 2 ∧ i.bytes = 24 ∧ z.cells.size = 2 := ⟨Tryz.underlying46, _, _, rfl, rfl, rfl, rfl, rfl⟩
theorem wpl_append_w {ops : Array Oper} {rest : List Oper} {o : Oper} {a : Act} {Q : Exit → Act → World → Prop} (W : World) (hgd : o.guard = none) (s x : Operand)
    (ho : o.op = .call { callee := .builtin .append, args := #[s, x], argTypes := #[46, 46] })
    (base : Nat) (v : Value) (ws : List Wd) (hs : a.eval s = v) (hown : OwnW W base v ws)
    (y : List UInt8) (q : Bool) (c : Nat) (hx : a.eval x = .slice (some ⟨W.heap.size, 0, none⟩) 1 c)
    (hbase : base ≤ W.heap.size) (hk : ws.length + 1 ≤ maxLen) (hk2 : (ws.length + 1) * 24 ≤ 140737488355328)
    (h : ∀ v' w', OwnW w' base v' (ws ++ [(y, q)]) → W.grownBy w' v.ownBlock → wpList Tryz.prog ops Q rest (a.put o.dst v') w') :
    wpList Tryz.prog ops Q (o :: rest) a (W.alloc (.cells #[.string ⟨y.toArray⟩, .bool q] 52)) := by
  obtain ⟨ht, i, z, hi, hz, hz1, hz2, hzc⟩ := elemWd
  refine wpList_append_own _ hgd s x 46 ho base 52 i z 2 24 ht hi hz hz1 hz2 hzc (by decide) v ws.length (wdF ws) hs (hown.alloc _) ⟨W.heap.size, 0, none⟩ 1 c [.string ⟨y.toArray⟩, .bool q] hx (by simp) (cells_new W [.string ⟨y.toArray⟩, .bool q] 52) (by intro u hu; simp at hu; rcases hu with rfl | rfl <;> rfl) hk hk2 (by simp; omega) ?_
  intro v' w' h1 h2 _
  refine h v' w' ?_ (grownBy_of_alloc h2)
  unfold OwnW
  rw [List.length_append, wdF_snoc]
  exact h1
theorem drop_at (s : ByteArray) (k : Nat) (h : k < s.size) : s.data.toList.drop k = s[k] :: s.data.toList.drop (k + 1) := by
  have hl : k < s.data.toList.length := by rw [size_data]; exact h
  rw [List.drop_eq_getElem_cons hl]
  rfl

set_option maxRecDepth 100000 in
set_option maxHeartbeats 16000000 in
theorem law4_words (s : ByteArray) (w : World) (hs : s.size ≤ 140737488355) :
    Calls Tryz.prog 19 #[.string s] w fun e w' => ∃ v', e = .returned v' ∧ OwnW w' w.heap.size v' (wordsG false [] s.data.toList) ∧ Below w.heap.size w w' := by
  have hsi : (s.size : Int) ≤ 140737488355 := by omega
  obtain ⟨WS, hWS⟩ : ∃ WS, wordsG false [] s.data.toList = WS := ⟨_, rfl⟩
  rw [hWS]
  have HW := Lib.hid hWS
  clear hWS
  go_enter Tryz.func19, Tryz.ntmps19
  go_wp2
  go_loopw [3, 4, 5, 6] (fun u t b i wr => ∃ (k : Nat) (done : List Wd) (y : List UInt8) (q : Bool), i = .int .i64 (k : Int) ∧ t = .string ⟨y.toArray⟩ ∧ b = .bool q ∧ k ≤ s.size + 1 ∧ OwnW wr w.heap.size u done ∧ Below w.heap.size w wr ∧ Hid (done.length ≤ k ∧ y.length ≤ k ∧ ((k ≤ s.size ∧ WS = done ++ wordsG q y (s.data.toList.drop k)) ∨ (k = s.size + 1 ∧ WS = done)))) (fun _ _ _ i _ => s.size + 1 - (intOf i).toNat)
  case atStart => exact ⟨0, [], [], false, rfl, rfl, rfl, Nat.zero_le _, OwnW.nil _ _, Below.refl _ _, Lib.hid ⟨Nat.le_refl _, Nat.le_refl _, .inl ⟨Nat.zero_le _, by rw [← HW.out]; rfl⟩⟩⟩
  case round =>
    obtain ⟨k, done, y, q, rfl, rfl, rfl, hk, hown, hB, HR⟩ := hrel
    obtain ⟨hdl, hyl, hcase⟩ := HR.out
    obtain ⟨au, cu, rfl⟩ := hown.shape
    have hBz := hB.size
    generalize hdn : done.length = dn at *
    have HDN := Lib.hid hdn; clear hdn
    have HK1 := Lib.hid (show done.length + 1 ≤ maxLen from by have := HDN.out; unfold maxLen; omega)
    have HK2 := Lib.hid (show (done.length + 1) * 24 ≤ 140737488355328 from by have := HDN.out; omega)
    rcases Nat.lt_or_ge k s.size with hlt | hge
    · have hc : WS = done ++ wordsG q y (s.data.toList.drop k) := by
        rcases hcase with ⟨_, h⟩ | ⟨h, _⟩
        · exact h
        · omega
      have hd := drop_at s k hlt
      rw [hd] at hc
      have hlti : (k : Int) < (s.size : Int) := by omega
      have hlei : (k : Int) ≤ (s.size : Int) := by omega
      have hcc : (s[k].toNat : Int) ≤ 255 := by have := s[k].toNat_lt; omega
      have hx1 := extract_one s k hlt
      have hz : (⟨y.toArray⟩ : ByteArray).size = y.length := mk_size y
      clear hcase HR hd
      by_cases hA : k + 1 < s.size ∧ s[k] = 92
      · obtain ⟨hA1, hA2⟩ := hA
        have hd2 := drop_at s (k + 1) hA1
        have hx2 := extract_two s k hA1
        have h92 : ((s[k].toNat : Int) == 92) = true := by rw [hA2]; rfl
        rw [hA2] at hx2
        rw [hd2, hA2, wg_pair] at hc
        have hA1i : (k : Int) + 1 < (s.size : Int) := by omega
        have hA2i : (k : Int) + 2 ≤ (s.size : Int) := by omega
        generalize s[k + 1] = c2 at *
        have a1 := fun W => run_string_add_sum (P := Tryz.prog) W ⟨y.toArray⟩ ⟨#[92, c2]⟩ (by have h2 : (⟨#[92, c2]⟩ : ByteArray).size = 2 := rfl; rw [h2, hz]; omega)
        have e1 : (⟨y.toArray⟩ : ByteArray) ++ ⟨#[92, c2]⟩ = ⟨(y ++ [92, c2]).toArray⟩ := mk_append y [92, c2]
        rw [e1] at a1
        have HN := Lib.hid (show done.length ≤ k + 2 ∧ (y ++ [92, c2]).length ≤ k + 2 ∧ ((k + 2 ≤ s.size ∧ WS = done ++ wordsG q (y ++ [92, c2]) (s.data.toList.drop (k + 2))) ∨ (k + 2 = s.size + 1 ∧ WS = done)) from ⟨by have := HDN.out; omega, by simp; omega, .inl ⟨by omega, hc⟩⟩)
        clear e1 hc hd2 hz hx1
        generalize y ++ [92, c2] = y2 at *
        go_wp2
        go_roundw
        case rel => exact ⟨k + 2, done, y2, q, by go_num, rfl, rfl, by omega, HDN.out ▸ hown, hB, HN⟩
        case measure => simp [intOf]; omega
      · have hin : s[k] = 92 → s.data.toList.drop (k + 1) = [] := fun e => List.drop_of_length_le (by rw [size_data]; have h : ¬ k + 1 < s.size := fun h => hA ⟨h, e⟩; omega)
        have a1 := fun W => run_string_add_sum (P := Tryz.prog) W ⟨y.toArray⟩ ⟨#[s[k]]⟩ (by show _ + 1 ≤ _; omega)
        have e1 : (⟨y.toArray⟩ : ByteArray) ++ ⟨#[s[k]]⟩ = ⟨(y ++ [s[k]]).toArray⟩ := mk_append y [s[k]]
        rw [e1] at a1
        have hA3 : ((k : Int) + 1 < (s.size : Int) ∧ ((s[k].toNat : Int) == 92) = false) ∨ ¬ (k : Int) + 1 < (s.size : Int) := by
          by_cases h : k + 1 < s.size
          · refine .inl ⟨by omega, ?_⟩
            have hne : s[k] ≠ 92 := fun e => hA ⟨h, e⟩
            exact u8_eqF (n := 92) (fun e => hne (UInt8.toNat_inj.1 e))
          · exact .inr (by omega)
        clear e1 hA hz
        by_cases h34 : s[k] = 34
        · have h34b : ((s[k].toNat : Int) == 34) = true := by rw [h34]; rfl
          rw [h34] at hc
          cases q with
          | true =>
            rw [wg_shut] at hc
            have HN := Lib.hid (show (done ++ [(y, true)]).length ≤ k + 1 ∧ ([] : List UInt8).length ≤ k + 1 ∧ ((k + 1 ≤ s.size ∧ WS = (done ++ [(y, true)]) ++ wordsG false [] (s.data.toList.drop (k + 1))) ∨ (k + 1 = s.size + 1 ∧ WS = done ++ [(y, true)])) from ⟨by have := HDN.out; simp; omega, by simp, .inl ⟨by omega, by rw [hc]; simp⟩⟩)
            clear hc hin a1 hx1 h34
            rcases hA3 with ⟨h1, h2⟩ | h1
            all_goals
              go_wp2_with (at_builtin; refine wpl_append_w wr rfl (.tmp 53) (.tmp 56) rfl w.heap.size (.slice au dn cu) done rfl (HDN.out ▸ hown) y true 1 rfl hBz HK1.out HK2.out ?_; intro v3 w3 hown3 hg3; have hB3 : Below w.heap.size w w3 := hB.grown hg3 hBz hown.base_le)
              go_roundw
              case rel => exact ⟨k + 1, done ++ [(y, true)], [], false, by go_num, rfl, rfl, by omega, hown3, hB3, HN⟩
              case measure => simp [intOf]; omega
          | false =>
            rw [wg_open] at hc
            have HN := Lib.hid (show done.length ≤ k + 1 ∧ y.length ≤ k + 1 ∧ ((k + 1 ≤ s.size ∧ WS = done ++ wordsG true y (s.data.toList.drop (k + 1))) ∨ (k + 1 = s.size + 1 ∧ WS = done)) from ⟨by have := HDN.out; omega, by omega, .inl ⟨by omega, hc⟩⟩)
            clear hc hin a1 hx1 h34
            rcases hA3 with ⟨h1, h2⟩ | h1
            all_goals
              go_wp2
              go_roundw
              case rel => exact ⟨k + 1, done, y, true, by go_num, rfl, rfl, by omega, HDN.out ▸ hown, hB, HN⟩
              case measure => simp [intOf]; omega
        · have h34b : ((s[k].toNat : Int) == 34) = false := u8_eqF (n := 34) (fun e => h34 (UInt8.toNat_inj.1 e))
          have HY : ∀ q', WS = done ++ wordsG q' (y ++ [s[k]]) (s.data.toList.drop (k + 1)) → Hid (done.length ≤ k + 1 ∧ (y ++ [s[k]]).length ≤ k + 1 ∧ ((k + 1 ≤ s.size ∧ WS = done ++ wordsG q' (y ++ [s[k]]) (s.data.toList.drop (k + 1))) ∨ (k + 1 = s.size + 1 ∧ WS = done))) := fun q' h => Lib.hid ⟨by have := HDN.out; omega, by simp; omega, .inl ⟨by omega, h⟩⟩
          cases q with
          | true =>
            rw [wg_in _ _ hin h34] at hc
            have HN := HY true hc
            clear hc hin HY h34
            generalize y ++ [s[k]] = y2 at *
            rcases hA3 with ⟨h1, h2⟩ | h1
            all_goals
              go_wp2
              go_roundw
              case rel => exact ⟨k + 1, done, y2, true, by go_num, rfl, rfl, by omega, HDN.out ▸ hown, hB, HN⟩
              case measure => simp [intOf]; omega
          | false =>
            by_cases h32 : s[k] = 32
            · have h32b : ((s[k].toNat : Int) == 32) = true := by rw [h32]; rfl
              rw [h32, wg_blank] at hc
              have hks : ((k : Int) == (s.size : Int)) = false := by simp; omega
              by_cases hy0 : y = []
              · subst hy0
                rw [if_pos rfl] at hc
                have HN := Lib.hid (show done.length ≤ k + 1 ∧ ([] : List UInt8).length ≤ k + 1 ∧ ((k + 1 ≤ s.size ∧ WS = done ++ wordsG false [] (s.data.toList.drop (k + 1))) ∨ (k + 1 = s.size + 1 ∧ WS = done)) from ⟨by have := HDN.out; omega, by simp, .inl ⟨by omega, hc⟩⟩)
                clear hc hin HY h34 h32 a1 hx1
                rcases hA3 with ⟨h1, h2⟩ | h1
                all_goals
                  go_wp2
                  go_roundw
                  case rel => exact ⟨k + 1, done, [], false, by go_num, rfl, rfl, by omega, HDN.out ▸ hown, hB, HN⟩
                  case measure => simp [intOf]; omega
              · rw [if_neg hy0] at hc
                have hne : y.isEmpty = false := by cases y with | nil => exact absurd rfl hy0 | cons a b => rfl
                have HN := Lib.hid (show (done ++ [(y, false)]).length ≤ k + 1 ∧ ([] : List UInt8).length ≤ k + 1 ∧ ((k + 1 ≤ s.size ∧ WS = (done ++ [(y, false)]) ++ wordsG false [] (s.data.toList.drop (k + 1))) ∨ (k + 1 = s.size + 1 ∧ WS = done ++ [(y, false)])) from ⟨by have := HDN.out; simp; omega, by simp, .inl ⟨by omega, by rw [hc]; simp⟩⟩)
                clear hc hin HY h34 h32 a1 hx1 hy0
                rcases hA3 with ⟨h1, h2⟩ | h1
                all_goals
                  go_wp2_with (at_builtin; refine wpl_append_w wr rfl (.tmp 88) (.tmp 91) rfl w.heap.size (.slice au dn cu) done rfl (HDN.out ▸ hown) y false 1 rfl hBz HK1.out HK2.out ?_; intro v3 w3 hown3 hg3; have hB3 : Below w.heap.size w w3 := hB.grown hg3 hBz hown.base_le)
                  go_roundw
                  case rel => exact ⟨k + 1, done ++ [(y, false)], [], false, by go_num, rfl, rfl, by omega, hown3, hB3, HN⟩
                  case measure => simp [intOf]; omega
            · have h32b : ((s[k].toNat : Int) == 32) = false := u8_eqF (n := 32) (fun e => h32 (UInt8.toNat_inj.1 e))
              have hks : ((k : Int) == (s.size : Int)) = false := by simp; omega
              rw [wg_out _ _ hin h34 h32] at hc
              have HN := HY false hc
              clear hc hin HY h34 h32
              generalize y ++ [s[k]] = y2 at *
              rcases hA3 with ⟨h1, h2⟩ | h1
              all_goals
                go_wp2
                go_roundw
                case rel => exact ⟨k + 1, done, y2, false, by go_num, rfl, rfl, by omega, HDN.out ▸ hown, hB, HN⟩
                case measure => simp [intOf]; omega
    · rcases Nat.lt_or_ge k (s.size + 1) with hlt1 | hge1
      · obtain rfl : k = s.size := by omega
        have hc : WS = done ++ wordsG q y [] := by
          rcases hcase with ⟨_, h⟩ | ⟨h, _⟩
          · rw [h, List.drop_of_length_le (by rw [size_data]; exact Nat.le_refl _)]
          · omega
        rw [wg_nil] at hc
        by_cases hy0 : y = []
        · subst hy0
          rw [if_pos rfl, List.append_nil] at hc
          have HC := Lib.hid hc
          clear hc hcase HR
          cases q
          all_goals
            go_wp2
            go_roundw
            case rel => exact ⟨s.size + 1, done, [], _, by go_num, rfl, rfl, Nat.le_refl _, HDN.out ▸ hown, hB, Lib.hid ⟨by have := HDN.out; omega, by simp, .inr ⟨rfl, HC.out⟩⟩⟩
            case measure => simp [intOf]
        · rw [if_neg hy0] at hc
          have HC := Lib.hid hc
          have hne : y.isEmpty = false := by cases y with | nil => exact absurd rfl hy0 | cons a b => rfl
          clear hc hcase HR hy0
          cases q
          all_goals
            go_wp2_with (at_builtin; refine wpl_append_w wr rfl (.tmp 88) (.tmp 91) rfl w.heap.size (.slice au dn cu) done rfl (HDN.out ▸ hown) y false 1 rfl hBz HK1.out HK2.out ?_; intro v3 w3 hown3 hg3; have hB3 : Below w.heap.size w w3 := hB.grown hg3 hBz hown.base_le)
            go_roundw
            case rel => exact ⟨s.size + 1, done ++ [(y, false)], [], _, by go_num, rfl, rfl, Nat.le_refl _, hown3, hB3, Lib.hid ⟨by have := HDN.out; simp; omega, by simp, .inr ⟨rfl, HC.out⟩⟩⟩
            case measure => simp [intOf]
      · obtain rfl : k = s.size + 1 := by omega
        have hc : WS = done := by
          rcases hcase with ⟨h, _⟩ | ⟨_, h⟩
          · omega
          · exact h
        have HC := Lib.hid hc
        have hgt : ¬ ((s.size + 1 : Nat) : Int) ≤ (s.size : Int) := by omega
        clear hc hcase HR
        go_wp2
        go_ret
        exact ⟨_, rfl, by rw [HC.out]; exact HDN.out ▸ hown, hB⟩
end Go.Proofs.YtkjmghnbcnbdbaaGreatDoor
