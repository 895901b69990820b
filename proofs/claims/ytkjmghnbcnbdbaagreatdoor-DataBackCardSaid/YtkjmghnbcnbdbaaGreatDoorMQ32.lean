/-
  rdata.form, rdata.readHalves.
-/
import Derived.Test.YtkjmghnbcnbdbaaGreatDoorMQ18
import Derived.Test.YtkjmghnbcnbdbaaGreatDoorMQ13
namespace Go.Proofs.YtkjmghnbcnbdbaaGreatDoor
open Go.RowKit Go.Shelf

theorem strings_Rep (s : ByteArray) (c : Nat) (w : World) (hc : c ≤ 1048576) (hs : s.size ≤ 1048576) :
    Calls Tryz.prog 108 #[.string s, .int .i64 c] w fun e w' => e = .returned (.string ⟨(Lib.repeatL s.data.toList c).toArray⟩) ∧ Below w.heap.size w w' :=
  Tryz.strings_Repeat s c w (by omega) (Nat.le_trans (Nat.mul_le_mul hs hc) (by decide))
theorem repeat_rep (x : UInt8) : ∀ c, Lib.repeatL [x] c = List.replicate c x
  | 0 => rfl
  | c + 1 => by rw [Lib.repeatL, repeat_rep x c]; rfl

set_option maxHeartbeats 4000000 in
theorem form_lit (t : Int) (n : Nat) (l : List UInt8) (w : World) (h : formD t n = l) (hw : Calls Tryz.prog 86 #[.int .i64 t, .int .i64 n] w fun e w' => e = .returned (.string ⟨l.toArray⟩) ∧ Below w.heap.size w w') :
    Calls Tryz.prog 86 #[.int .i64 t, .int .i64 n] w fun e w' => e = .returned (.string ⟨(formD t n).toArray⟩) ∧ Below w.heap.size w w' := by
  rw [h]; exact hw
set_option maxRecDepth 100000 in
set_option maxHeartbeats 8000000 in
theorem rdata_form (t : Int) (n : Nat) (w : World) (hn : n ≤ 1048576) :
    Calls Tryz.prog 86 #[.int .i64 t, .int .i64 n] w fun e w' => e = .returned (.string ⟨(formD t n).toArray⟩) ∧ Below w.heap.size w w' := by
  by_cases h1 : t = 1
  · refine form_lit t n [52] w (by unfold formD; rw [if_pos h1]) ?_
    subst h1
    go_enter Tryz.func86, Tryz.ntmps86
    go_wp2
    go_ret
    exact ⟨rfl, Below.refl _ _⟩
  by_cases h2 : t = 28
  · refine form_lit t n [54] w (by unfold formD; rw [if_neg h1, if_pos h2]) ?_
    subst h2
    go_enter Tryz.func86, Tryz.ntmps86
    go_wp2
    go_ret
    exact ⟨rfl, Below.refl _ _⟩
  by_cases h3 : t = 2 ∨ t = 5 ∨ t = 12 ∨ t = 39
  · refine form_lit t n [110] w (by unfold formD; rw [if_neg h1, if_neg h2, if_pos h3]) ?_
    clear h1 h2
    rcases h3 with rfl | rfl | rfl | rfl
    all_goals
      go_enter Tryz.func86, Tryz.ntmps86
      go_wp2
      go_ret
      exact ⟨rfl, Below.refl _ _⟩
  by_cases h4 : t = 15
  · refine form_lit t n [112, 110] w (by unfold formD; rw [if_neg h1, if_neg h2, if_neg h3, if_pos h4]) ?_
    subst h4
    go_enter Tryz.func86, Tryz.ntmps86
    go_wp2
    go_ret
    exact ⟨rfl, Below.refl _ _⟩
  by_cases h5 : t = 6
  · refine form_lit t n [110, 110, 117, 117, 117, 117, 117] w (by unfold formD; rw [if_neg h1, if_neg h2, if_neg h3, if_neg h4, if_pos h5]) ?_
    subst h5
    have r1 : ∀ W, Calls Tryz.prog 108 #[.string ⟨#[110]⟩, .int .i64 2] W fun e w' => e = .returned (.string ⟨(Lib.repeatL (⟨#[110]⟩ : ByteArray).data.toList 2).toArray⟩) ∧ Below W.heap.size W w' := fun W => strings_Rep ⟨#[110]⟩ 2 W (by omega) (by decide)
    have r2 : ∀ W, Calls Tryz.prog 108 #[.string ⟨#[117]⟩, .int .i64 5] W fun e w' => e = .returned (.string ⟨(Lib.repeatL (⟨#[117]⟩ : ByteArray).data.toList 5).toArray⟩) ∧ Below W.heap.size W w' := fun W => strings_Rep ⟨#[117]⟩ 5 W (by omega) (by decide)
    have a1 := fun W => run_string_add_sum (P := Tryz.prog) W ⟨#[110, 110]⟩ ⟨#[117, 117, 117, 117, 117]⟩ (by decide)
    have e1 : (⟨#[110, 110]⟩ : ByteArray) ++ ⟨#[117, 117, 117, 117, 117]⟩ = ⟨#[110, 110, 117, 117, 117, 117, 117]⟩ := by decide
    have e2 : (⟨(Lib.repeatL (⟨#[110]⟩ : ByteArray).data.toList 2).toArray⟩ : ByteArray) = ⟨#[110, 110]⟩ := rfl
    have e3 : (⟨(Lib.repeatL (⟨#[117]⟩ : ByteArray).data.toList 5).toArray⟩ : ByteArray) = ⟨#[117, 117, 117, 117, 117]⟩ := rfl
    rw [e1] at a1
    rw [e2] at r1
    rw [e3] at r2
    clear e1 e2 e3 h1 h2 h3 h4
    go_enter Tryz.func86, Tryz.ntmps86
    go_wp2_with (first | (go_at_call 108; ((with_reducible refine (r1 _).mono ?_); rintro e w1 ⟨rfl, hb1⟩)) | (go_at_call 108; ((with_reducible refine (r2 _).mono ?_); rintro e w2 ⟨rfl, hb2⟩)))
    go_ret
    exact ⟨rfl, hb1.trans (hb2.mono hb1.size)⟩
  by_cases h6 : t = 16
  · by_cases h7 : (n : Int) ≤ 32
    · refine form_lit t n (List.replicate n 116) w (by unfold formD; rw [if_neg h1, if_neg h2, if_neg h3, if_neg h4, if_neg h5, if_pos ⟨h6, by omega⟩]) ?_
      subst h6
      have r1 := fun W => strings_Rep ⟨#[116]⟩ n W hn (by decide)
      have e2 : (⟨(Lib.repeatL (⟨#[116]⟩ : ByteArray).data.toList n).toArray⟩ : ByteArray) = ⟨(List.replicate n 116).toArray⟩ := by rw [← repeat_rep]
      rw [e2] at r1
      clear e2 h1 h2 h3 h4 h5
      generalize (⟨(List.replicate n 116).toArray⟩ : ByteArray) = rs at *
      go_enter Tryz.func86, Tryz.ntmps86
      go_wp2_with (go_at_call 108; refine (r1 _).mono ?_; rintro e w1 ⟨rfl, hb1⟩)
      go_ret
      exact ⟨rfl, hb1⟩
    · refine form_lit t n [] w (by unfold formD; rw [if_neg h1, if_neg h2, if_neg h3, if_neg h4, if_neg h5, if_neg (by omega)]) ?_
      subst h6
      clear h1 h2 h3 h4 h5
      go_enter Tryz.func86, Tryz.ntmps86
      go_wp2
      go_ret
      exact ⟨rfl, Below.refl _ _⟩
  refine form_lit t n [] w (by unfold formD; rw [if_neg h1, if_neg h2, if_neg h3, if_neg h4, if_neg h5, if_neg (by omega)]) ?_
  have e1 : (t == 1) = false := by simpa using h1
  have e2 : (t == 28) = false := by simpa using h2
  have e3 : (t == 2) = false := by simp; omega
  have e4 : (t == 5) = false := by simp; omega
  have e5 : (t == 12) = false := by simp; omega
  have e6 : (t == 39) = false := by simp; omega
  have e7 : (t == 15) = false := by simpa using h4
  have e8 : (t == 6) = false := by simpa using h5
  have e9 : (t == 16) = false := by simpa using h6
  clear h1 h2 h3 h4 h5 h6
  go_enter Tryz.func86, Tryz.ntmps86
  go_wp2
  go_ret
  exact ⟨rfl, Below.refl _ _⟩

/-! ### halves -/
theorem halvesOK_snoc (l : List Wd) (x : Wd) : halvesOK (l ++ [x]) = (halvesOK l && (!x.2 && x.1.all hexB)) := by simp [halvesOK]
theorem halvesL_snoc (l : List Wd) (x : Wd) : halvesL (l ++ [x]) = halvesL l ++ x.1.map hexW := by simp [halvesL]
theorem halves_not {l : List Wd} {k : Nat} (hk : k < l.length) (h : l[k].2 = true ∨ l[k].1.all hexB = false) : halvesOK l = false := by
  cases e : halvesOK l with
  | false => rfl
  | true =>
    unfold halvesOK at e; rw [List.all_eq_true] at e
    have := e _ (List.getElem_mem hk)
    rcases h with h | h <;> rw [h] at this <;> simp at this
theorem all_not {l : List UInt8} {j : Nat} (hj : j < l.length) (h : hexB l[j] = false) : l.all hexB = false := by
  cases e : l.all hexB with
  | false => rfl
  | true => rw [List.all_eq_true] at e; have := e _ (List.getElem_mem hj); rw [h] at this; cases this
theorem hexW_nat (c : UInt8) : ((hexV c : Int)) = ((hexW c).toNat : Int) := by
  have := hexV_lt c
  unfold hexW
  have h : (UInt8.ofNat (hexV c)).toNat = hexV c := by simp; omega
  rw [h]
theorem OwnG.ne_block {α : Type} {T : TypeId} {enc : α → Value} {W : World} {base : Nat} {v : Value} {xs : List α} (h : OwnG T enc W base v xs) {B : Nat} {cs : Array Value} {t : TypeId} (hB : W.heap[B]? = some (.cells cs t)) (ht : t ≠ T) : some B ≠ v.ownBlock := by
  rcases h.2 with ⟨rfl, _⟩ | ⟨g, cap, cur, rfl, _, hg, _⟩
  · simp [Value.ownBlock]
  · intro e
    obtain rfl : B = g := by simpa [Value.ownBlock] using e
    rw [hg] at hB
    cases hB
    exact ht rfl
theorem block_new (W : World) (o : Obj) : (W.alloc o).heap[W.heap.size]? = some o := by
  show (W.heap.push o)[W.heap.size]? = some o
  simp
theorem cell_of_block {W : World} {B : Nat} {cs : Array Value} {t : TypeId} (h : W.heap[B]? = some (.cells cs t)) (j : Nat) (v : Value) (hv : cs[j]? = some v) : W.cell? ⟨B, j, none⟩ = some v := by
  simp only [World.cell?, h]
  simpa using hv
/-- What readHalves answers. -/
def HalvesPost (l : List Wd) (w : World) (e : Ending) (w' : World) : Prop := ∃ v', e = .returned (.tuple #[v', .bool (halvesOK l)]) ∧ OwnG 5 bv w' w.heap.size v' (if halvesOK l = true then halvesL l else []) ∧ Below w.heap.size w w'
theorem halves_fin {l : List Wd} {w w' : World} {e : Ending} {v : Value} (b : Bool) (xs : List UInt8) (h : halvesOK l = b) (h2 : b = true → halvesL l = xs) (h3 : b = false → xs = []) (he : e = .returned (.tuple #[v, .bool b])) (ho : OwnG 5 bv w' w.heap.size v xs) (hb : Below w.heap.size w w') : HalvesPost l w e w' := by
  subst h
  refine ⟨v, he, ?_, hb⟩
  cases hh : halvesOK l with
  | true => rw [if_pos rfl, h2 hh]; exact ho
  | false => rw [if_neg (by simp), ← h3 hh]; exact ho

set_option maxRecDepth 100000 in
set_option maxHeartbeats 8000000 in
theorem rdata_readHalves (v : Value) (l : List Wd) (w : World) (hA : WdsAt w v l) (hk : WdsOK l) :
    Calls Tryz.prog 85 #[v] w (HalvesPost l w) := by
  obtain ⟨a, c, rfl, _⟩ := id hA
  have hcell := fun W (hb : Below w.heap.size w W) j hj => hA.cell hb j hj
  obtain ⟨n, hn⟩ : ∃ n, l.length = n := ⟨_, rfl⟩
  have HN := Lib.hid hn
  have hnb : n ≤ 1048576 := by have := hk.1; omega
  have hok := hk.2
  rw [hn]
  clear hn hk hA
  go_enter Tryz.func85, Tryz.ntmps85
  go_wp2_with fail
  go_loopw [4, 12] (fun u i wr => ∃ (k : Nat) (xs : List UInt8), i = .int .i64 k ∧ k ≤ n ∧ OwnG 5 bv wr w.heap.size u xs ∧ Below w.heap.size w wr ∧ Hid (halvesOK (l.take k) = true ∧ xs = halvesL (l.take k) ∧ xs.length ≤ k * 500000)) (fun _ i _ => n - (intOf i).toNat)
  case atStart => exact ⟨0, [], rfl, Nat.zero_le _, OwnG.nil _ _, Below.refl _ _, Lib.hid ⟨rfl, rfl, by simp⟩⟩
  case round =>
    obtain ⟨k, xs, rfl, hk0, hown, hB, HR⟩ := hrel
    have hBz := hB.size
    by_cases hlt : k < n
    · have hkl : k < l.length := by rw [HN.out]; exact hlt
      obtain ⟨g, off, rfl, hg, hc1, hc2⟩ := hcell wr hB k hkl
      obtain ⟨s, hs0, hsz, hsv⟩ := str_of l[k].1
      rw [hsv] at hc1
      have hxk := hok _ (List.getElem_mem hkl)
      have H0 := Lib.hid (fun h => halves_not (l := l) hkl h)
      have hsn := halvesOK_snoc (l.take k) l[k]
      have hln := halvesL_snoc (l.take k) l[k]
      rw [← List.take_succ_eq_append_getElem hkl] at hsn hln
      rw [HR.out.1, ← hs0] at hsn
      rw [← HR.out.2.1, ← hs0] at hln
      have HSN := Lib.hid (And.intro hsn hln)
      have HS := Lib.hid (And.intro hs0 hsz)
      clear hsn hln hcell hsv hok
      have hsb : (s.size : Int) ≤ 500000 := by omega
      clear hs0 hsz hxk
      cases hq : l[k].2 with
      | true =>
        have H1 := Lib.hid (H0.out (.inl hq))
        rw [hq] at hc2
        clear H0 HSN hq
        go_wp2_with fail
        go_ret2
        exact halves_fin false [] H1.out (fun h => by cases h) (fun _ => rfl) rfl (OwnG.nil _ _) (hB.alloc hBz _)
      | false =>
        have H1 := Lib.hid (fun h => H0.out (.inr h))
        have HS2 := Lib.hid (show halvesOK (l.take (k + 1)) = s.data.toList.all hexB by have := HSN.out.1; rw [hq] at this; simpa using this)
        rw [hq] at hc2
        have hbx := Lib.hid (block_new wr (.cells #[.string s, .bool false] 52))
        have hB1 := hB.alloc hBz (.cells #[.string s, .bool false] 52)
        have hown1 := hown.alloc (.cells #[.string s, .bool false] 52)
        have hbl : wr.heap.size < (wr.alloc (.cells #[.string s, .bool false] 52)).heap.size := by simp
        have HX := Lib.hid HR.out.2.2
        clear H0 hq hown hB HR
        go_wp2_with fail
        clear hc1 hc2
        obtain ⟨bx, hbx0⟩ : ∃ bx, wr.heap.size = bx := ⟨_, rfl⟩
        rw [hbx0] at hbx hbl hBz ⊢
        generalize wr.alloc (.cells #[.string s, .bool false] 52) = w1 at *
        clear hbx0
        go_loopw [4, 21] (fun u i wr2 => ∃ (j : Nat) (ys : List UInt8), i = .int .i64 j ∧ j ≤ s.size ∧ OwnG 5 bv wr2 w.heap.size u ys ∧ Below w.heap.size w wr2 ∧ Hid (wr2.heap[bx]? = some (.cells #[.string s, .bool false] 52)) ∧ Hid ((s.data.toList.take j).all hexB = true ∧ ys = xs ++ (s.data.toList.take j).map hexW)) (fun _ i _ => s.size - (intOf i).toNat)
        case atStart => exact ⟨0, xs, rfl, Nat.zero_le _, hown1, hB1, hbx, Lib.hid ⟨rfl, by simp⟩⟩
        case round =>
          obtain ⟨j, ys, rfl, hj, hown2, hB2, hbx2, HY⟩ := hrel
          have hB2z := hB2.size
          have hcb := cell_of_block hbx2.out 0 (.string s) rfl
          have hlt2 : bx < wr.heap.size := by
            have := hbx2.out
            rw [Array.getElem?_eq_some_iff] at this
            exact this.1
          obtain ⟨au, cu, rfl⟩ := hown2.shape
          have hyl : ys.length = xs.length + j ∨ s.size < j := by rw [HY.out.2]; simp; omega
          have HYL := Lib.hid hyl
          obtain ⟨dl, hdl⟩ : ∃ dl, ys.length = dl := ⟨_, rfl⟩
          rw [hdl] at hown2 ⊢
          have HDL := Lib.hid hdl
          clear hyl hdl
          by_cases hjt : j < s.size
          · have hD := fun W => rdata_digitOf s[j] W
            have hjl : j < s.data.toList.length := by rw [size_data]; exact hjt
            have hg0 : s[j] = s.data.toList[j] := rfl
            cases hh : hexB s[j] with
            | false =>
              have H2 := Lib.hid (H1.out (by rw [← HS.out.1]; exact all_not hjl (by rw [← hg0]; exact hh)))
              rw [hh] at hD
              clear hh hg0
              go_wp2_with (go_at_call 107; refine (hD _).mono ?_; rintro e w3 ⟨rfl, rfl⟩)
              go_ret2
              exact halves_fin false [] H2.out (fun h => by cases h) (fun _ => rfl) rfl (OwnG.nil _ _) hB2
            | true =>
              have htk := List.take_succ_eq_append_getElem hjl
              have HY2 := Lib.hid (show (s.data.toList.take (j + 1)).all hexB = true ∧ ys ++ [hexW s[j]] = xs ++ (s.data.toList.take (j + 1)).map hexW by
                rw [htk, List.all_append, HY.out.1, List.map_append, ← List.append_assoc, ← HY.out.2, ← hg0]
                simp [hh])
              have HC := Lib.hid (show [Value.int .u8 (hexV s[j] : Int)] = [hexW s[j]].map bv by rw [hexW_nat]; rfl)
              have hv16 : (hexV s[j] : Int) ≤ 15 := by have := hexV_lt s[j]; omega
              have hv0 : (0 : Int) ≤ (hexV s[j] : Int) := by omega
              have hne := Lib.hid (hown2.ne_block hbx2.out (by decide))
              rw [hh] at hD
              clear hh hg0 htk HY
              generalize hexV s[j] = hv at *
              go_wp2_with (first | (go_at_call 107; refine (hD _).mono ?_; rintro e w3 ⟨rfl, rfl⟩) | (at_builtin; refine wpl_append_g wr rfl (.tmp 34) (.tmp 37) elemU8 rfl bv_one1 w.heap.size (.slice au dl cu) ys rfl hown2 [.int .u8 (hv : Int)] [hexW s[j]] HC.out 1 1 rfl rfl hB2z (by have := HX.out; have := HDL.out; have := HYL.out; unfold maxLen; simp; omega) (by have := HX.out; have := HDL.out; have := HYL.out; simp; omega) ?_; intro v4 w4 hown4 hg4; have hB4 : Below w.heap.size w w4 := hB2.grown hg4 hB2z hown2.base_le; have hbx4 := Lib.hid ((hg4.block bx hlt2 hne.out).trans hbx2.out)))
              go_roundw
              case rel => exact ⟨j + 1, ys ++ [hexW s[j]], by go_num, by omega, hown4, hB4, hbx4, HY2⟩
              case measure => simp [intOf]; omega
          · obtain rfl : j = s.size := by omega
            have HF := Lib.hid (show halvesOK (l.take (k + 1)) = true ∧ ys = halvesL (l.take (k + 1)) ∧ ys.length ≤ (k + 1) * 500000 by
              have hf : s.data.toList.take s.size = s.data.toList := List.take_of_length_le (by rw [size_data]; exact Nat.le_refl _)
              have h1 := HY.out
              rw [hf] at h1
              refine ⟨by rw [HS2.out]; exact h1.1, by rw [HSN.out.2]; exact h1.2, ?_⟩
              have := HX.out
              rw [h1.2, List.length_append, List.length_map, size_data]
              omega)
            clear HY HSN HS2
            go_wp2_with fail
            go_roundw
            case rel => exact ⟨k + 1, ys, by go_num, by omega, hown2, hB2, HF⟩
            case measure => simp [intOf]; omega
    · obtain rfl : k = n := by omega
      have H0 := Lib.hid (show halvesOK l = true ∧ halvesL l = xs by
        have h := HR.out
        rw [List.take_of_length_le (by rw [HN.out]; exact Nat.le_refl _)] at h
        exact ⟨h.1, h.2.1.symm⟩)
      clear HR hcell
      go_wp2_with fail
      go_ret2
      exact halves_fin true xs H0.out.1 (fun _ => H0.out.2) (fun h => by cases h) rfl hown hB
end Go.Proofs.YtkjmghnbcnbdbaaGreatDoor

