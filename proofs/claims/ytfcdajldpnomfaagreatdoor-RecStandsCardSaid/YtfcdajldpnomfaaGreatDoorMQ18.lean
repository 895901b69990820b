/-
  rdata.form, rdata.readHalves.
-/
import Derived.Test.YtfcdajldpnomfaaGreatDoorMQ19
import Derived.Test.YtfcdajldpnomfaaGreatDoorMQ03
import Derived.Lib.Repeat
import Derived.Test.YtfcdajldpnomfaaGreatDoorMQ36
import Derived.IntWalk
import Derived.Outline
namespace Go.Proofs.YtfcdajldpnomfaaGreatDoor
set_option maxRecDepth 20000
open Go.RowKit Go.Shelf

theorem repeat_rep (x : UInt8) : ∀ c, Lib.repeatL [x] c = List.replicate c x
  | 0 => rfl
  | c + 1 => by rw [Lib.repeatL, repeat_rep x c]; rfl

/-! ### halves -/
theorem halvesOK_snoc (l : List Wd) (x : Wd) : halvesOK (l ++ [x]) = (halvesOK l && (!x.2 && x.1.all hexB)) := by simp [halvesOK]
theorem halvesL_snoc (l : List Wd) (x : Wd) : halvesL (l ++ [x]) = halvesL l ++ x.1.map hexW := by simp [halvesL]
theorem halves_not {l : List Wd} {k : Nat} (hk : k < l.length) (h : l[k].2 = true ∨ l[k].1.all hexB = false) : halvesOK l = false := by
  cases e : halvesOK l with
  | false => rfl
  | true =>
    unfold halvesOK at e; rw [List.all_eq_true] at e
    have := e _ (List.getElem_mem hk)
    rcases h with h | h <;> rw [h] at this <;> simp at this
theorem all_not {l : List UInt8} {j : Nat} (hj : j < l.length) (h : hexB l[j] = false) : l.all hexB = false := by
  cases e : l.all hexB with
  | false => rfl
  | true => rw [List.all_eq_true] at e; have := e _ (List.getElem_mem hj); rw [h] at this; cases this
theorem hexW_nat (c : UInt8) : ((hexV c : Int)) = ((hexW c).toNat : Int) := by
  have := hexV_lt c
  unfold hexW
  have h : (UInt8.ofNat (hexV c)).toNat = hexV c := by simp; omega
  rw [h]
theorem OwnG.ne_block {α : Type} {T : TypeId} {enc : α → Value} {W : World} {base : Nat} {v : Value} {xs : List α} (h : OwnG T enc W base v xs) {B : Nat} {cs : Array Value} {t : TypeId} (hB : W.heap[B]? = some (.cells cs t)) (ht : t ≠ T) : some B ≠ v.ownBlock := by
  rcases h.2 with ⟨rfl, _⟩ | ⟨g, cap, cur, rfl, _, hg, _⟩
  · simp [Value.ownBlock]
  · intro e
    obtain rfl : B = g := by simpa [Value.ownBlock] using e
    rw [hg] at hB
    cases hB
    exact ht rfl
theorem block_new (W : World) (o : Obj) : (W.alloc o).heap[W.heap.size]? = some o := by
  show (W.heap.push o)[W.heap.size]? = some o
  simp
theorem cell_of_block {W : World} {B : Nat} {cs : Array Value} {t : TypeId} (h : W.heap[B]? = some (.cells cs t)) (j : Nat) (v : Value) (hv : cs[j]? = some v) : W.cell? ⟨B, j, none⟩ = some v := by
  simp only [World.cell?, h]
  simpa using hv
/-- What readHalves answers. -/
def HalvesPost (l : List Wd) (w : World) (e : Ending) (w' : World) : Prop := ∃ v', e = .returned (.tuple #[v', .bool (halvesOK l)]) ∧ OwnG 5 bv w' w.heap.size v' (if halvesOK l = true then halvesL l else []) ∧ Below w.heap.size w w'
theorem halves_fin {l : List Wd} {w w' : World} {e : Ending} {v : Value} (b : Bool) (xs : List UInt8) (h : halvesOK l = b) (h2 : b = true → halvesL l = xs) (h3 : b = false → xs = []) (he : e = .returned (.tuple #[v, .bool b])) (ho : OwnG 5 bv w' w.heap.size v xs) (hb : Below w.heap.size w w') : HalvesPost l w e w' := by
  subst h
  refine ⟨v, he, ?_, hb⟩
  cases hh : halvesOK l with
  | true => rw [if_pos rfl, h2 hh]; exact ho
  | false => rw [if_neg (by simp), ← h3 hh]; exact ho

end Go.Proofs.YtfcdajldpnomfaaGreatDoor

/-
  rdata.readAddress, rdata.readGroups.
-/
namespace Go.Proofs.YtfcdajldpnomfaaGreatDoor
set_option maxRecDepth 20000
open Go.RowKit Go.Shelf

def CellsS (a : Option Addr) (ps : Nm) (W : World) : Prop := ∀ W', Below W.heap.size W W' → ∀ j (hj : j < ps.length), ∃ b off, a = some ⟨b, off, none⟩ ∧ b < W.heap.size ∧ W'.cell? ⟨b, off + j, none⟩ = some (strV ps[j])
theorem splitAtU_len (c : UInt8) : ∀ (s : List UInt8), (splitAtU c s).length ≤ s.length + 1 ∧ ∀ x ∈ splitAtU c s, x.length ≤ s.length
  | [] => by simp [splitAtU]
  | b :: r => by
    obtain ⟨h1, h2⟩ := splitAtU_len c r
    by_cases h : b = c
    · have e : splitAtU c (b :: r) = [] :: splitAtU c r := by rw [splitAtU, if_pos h]
      rw [e]
      refine ⟨by simp; omega, fun x hx => ?_⟩
      rcases List.mem_cons.1 hx with rfl | hx
      · simp
      · have := h2 x hx; simp; omega
    · have e : splitAtU c (b :: r) = match splitAtU c r with | [] => [[b]] | x :: t => (b :: x) :: t := by rw [splitAtU, if_neg h]; cases splitAtU c r <;> rfl
      rw [e]
      cases hs : splitAtU c r with
      | nil => simp
      | cons x t =>
        rw [hs] at h1 h2
        refine ⟨by simp at h1 ⊢; omega, fun y hy => ?_⟩
        rcases List.mem_cons.1 hy with rfl | hy
        · have := h2 x (by simp); simp; omega
        · have := h2 y (by simp [hy]); simp; omega
theorem addrs_err {p : List UInt8} {r : Nm} (h : (numM p 255).2 ≠ 0) : addrsM (p :: r) = ([], (numM p 255).2) := by rw [addrsM, if_pos h]
theorem addrs_ok {p : List UInt8} {r : Nm} (h : (numM p 255).2 = 0) : addrsM (p :: r) = join [UInt8.ofNat (numM p 255).1] (addrsM r) := by
  rw [addrsM, if_neg (by simpa using h)]; unfold join; rfl
theorem addrs_nil (l : Nm) : addrsM l = join [] (addrsM l) := by
  unfold join
  induction l with
  | nil => rfl
  | cons p r _ =>
    by_cases h : (numM p 255).2 = 0
    · rw [addrs_ok h]
      unfold join
      by_cases h2 : (addrsM r).2 = 0
      · simp [h2]
      · simp [h2]
    · rw [addrs_err h, if_neg h]

theorem numM_le (l : List UInt8) (most : Nat) : (numM l most).1 ≤ most := by
  unfold numM
  split
  · split
    · assumption
    · exact Nat.zero_le _
  · exact Nat.zero_le _
end Go.Proofs.YtfcdajldpnomfaaGreatDoor

/-
  rdata.quoted, rdata.readAddress.
-/
namespace Go.Proofs.YtfcdajldpnomfaaGreatDoor
set_option maxRecDepth 20000
open Go.RowKit Go.Shelf

/-! ### quoted -/
def quoteF (l : List UInt8) : List UInt8 := l.flatMap quoteW
theorem quoteF_snoc (l : List UInt8) (c : UInt8) : quoteF (l ++ [c]) = quoteF l ++ quoteW c := by simp [quoteF]
theorem quoteW_sign {c : UInt8} (h : ((c.toNat : Int) == 34) = true ∨ ((c.toNat : Int) == 92) = true) : quoteW c = [92, c] := by
  unfold quoteW
  rw [if_pos]
  rcases h with h | h
  · exact .inl (u8_is (n := 34) (by omega) h)
  · exact .inr (u8_is (n := 92) (by omega) h)
theorem quoteW_esc {c : UInt8} (h1 : ((c.toNat : Int) == 34) = false) (h2 : ((c.toNat : Int) == 92) = false) (h : (c.toNat : Int) < 32 ∨ 126 < (c.toNat : Int)) : quoteW c = octetEsc c := by
  have n1 : c ≠ 34 := u8_isnt (n := 34) (by omega) h1
  have n2 : c ≠ 92 := u8_isnt (n := 92) (by omega) h2
  unfold quoteW
  rw [if_neg (by rintro (h | h) <;> contradiction), if_pos (by omega)]
theorem quoteW_plain {c : UInt8} (h1 : ((c.toNat : Int) == 34) = false) (h2 : ((c.toNat : Int) == 92) = false) (h3 : 32 ≤ (c.toNat : Int)) (h4 : (c.toNat : Int) ≤ 126) : quoteW c = [c] := by
  have n1 : c ≠ 34 := u8_isnt (n := 34) (by omega) h1
  have n2 : c ≠ 92 := u8_isnt (n := 92) (by omega) h2
  unfold quoteW
  rw [if_neg (by rintro (h | h) <;> contradiction), if_neg (by omega)]
theorem quoteW_le (c : UInt8) : (quoteW c).length ≤ 4 := by
  unfold quoteW; split
  · simp
  · split <;> simp [octetEsc]
theorem quoteF_le (l : List UInt8) : (quoteF l).length ≤ 4 * l.length := by
  induction l with
  | nil => simp [quoteF]
  | cons c r ih => have := quoteW_le c; simp only [quoteF, List.flatMap_cons, List.length_append, List.length_cons] at ih ⊢; omega

theorem lit_u8 (w : World) (l : List UInt8) (h : l.length ≤ 140737488355328) : OwnG 5 bv (w.alloc (.cells (l.map bv).toArray 5)) w.heap.size (.slice (some ⟨w.heap.size, 0, none⟩) l.length l.length) l :=
  OwnG.lit (T := 5) (enc := bv) w w.heap.size (Nat.le_refl _) l (by unfold maxLen; omega)

set_option maxRecDepth 100000 in
set_option maxHeartbeats 4000000 in
theorem rdata_quoted (s : ByteArray) (w : World) (hs : s.size ≤ 1099511627776) :
    Calls Tryz.prog 126 #[.string s] w fun e w' => e = .returned (.string ⟨(quotedM s.data.toList).toArray⟩) ∧ Below w.heap.size w w' := by
  have hown0 := lit_u8 w [34] (by simp)
  have hB0 : Below w.heap.size w (w.alloc (.cells ([(34 : UInt8)].map bv).toArray 5)) := (Below.refl _ w).alloc (Nat.le_refl _) _
  have hq : quotedM s.data.toList = [34] ++ quoteF (s.data.toList.take s.size) ++ [34] := by rw [List.take_of_length_le (by rw [size_data]; exact Nat.le_refl _)]; simp [quotedM, quoteF]
  have HQ := Lib.hid hq; clear hq
  go_enter Tryz.func126, Tryz.ntmps126
  go_wp2_with fail
  go_loopw [3, 9] (fun v i wr => ∃ k : Nat, i = .int .i64 k ∧ k ≤ s.size ∧ OwnG 5 bv wr w.heap.size v ([34] ++ quoteF (s.data.toList.take k)) ∧ Below w.heap.size w wr) (fun _ i _ => s.size - (intOf i).toNat)
  case atStart => exact ⟨0, rfl, Nat.zero_le _, hown0, hB0⟩
  case round =>
    obtain ⟨k, rfl, hk, hown, hB⟩ := hrel
    have hBz := hB.size
    obtain ⟨av, cv, rfl⟩ := hown.shape
    generalize hdl : ([34] ++ quoteF (s.data.toList.take k)).length = dl at *
    have HDL := Lib.hid hdl; clear hdl
    have hql := quoteF_le (s.data.toList.take k)
    have htl : (s.data.toList.take k).length ≤ k := List.length_take_le _ _
    by_cases hlt : k < s.size
    · have hsn := take_snoc_get s k hlt
      have hcc : (s[k].toNat : Int) ≤ 255 := by have := s[k].toNat_lt; omega
      have hc0 : (0 : Int) ≤ (s[k].toNat : Int) := by omega
      have HSN := Lib.hid (show quoteF (s.data.toList.take (k + 1)) = quoteF (s.data.toList.take k) ++ quoteW s[k] by rw [hsn, quoteF_snoc])
      have hlen := Lib.hid (show ([34] ++ quoteF (s.data.toList.take k)).length ≤ 4398046511200 by simp; omega)
      clear hsn hql htl
      generalize quoteF (s.data.toList.take k) = xs at *
      have hesc := Lib.hid (esc_cells s[k])
      by_cases c1 : ((s[k].toNat : Int) == 34) = true ∨ ((s[k].toNat : Int) == 92) = true
      · have HW := Lib.hid (quoteW_sign c1)
        have c3 : ((s[k].toNat : Int) == 34) = true ∨ (((s[k].toNat : Int) == 34) = false ∧ ((s[k].toNat : Int) == 92) = true) := by
          cases h : ((s[k].toNat : Int) == 34) with
          | true => exact .inl rfl
          | false => rw [h] at c1; exact .inr ⟨rfl, by simpa using c1⟩
        clear c1
        rcases c3 with c1 | ⟨c1, c2⟩
        all_goals
          go_wp2_with (at_builtin; refine wpl_append_g wr rfl (.tmp 26) (.tmp 28) elemU8 rfl bv_one1 w.heap.size (.slice av dl cv) ([34] ++ xs) rfl hown [.int .u8 92, .int .u8 (s[k].toNat : Int)] [92, s[k]] rfl 2 2 rfl rfl hBz (by have := hlen.out; unfold maxLen; simp at this ⊢; omega) (by have := hlen.out; simp at this ⊢; omega) ?_; intro v2 w2 hown2 hg2; have hB2 := hB.grown hg2 hBz hown.base_le)
          go_roundw
          case rel => exact ⟨k + 1, by go_num, by omega, by rw [HSN.out, HW.out, ← List.append_assoc]; exact hown2, hB2⟩
          case measure => simp [intOf]; omega
      · have c2 : ((s[k].toNat : Int) == 34) = false := by
          cases h : ((s[k].toNat : Int) == 34) with
          | true => exact absurd (.inl h) c1
          | false => rfl
        have c3 : ((s[k].toNat : Int) == 92) = false := by
          cases h : ((s[k].toNat : Int) == 92) with
          | true => exact absurd (.inr h) c1
          | false => rfl
        clear c1
        by_cases c4 : (s[k].toNat : Int) < 32 ∨ 126 < (s[k].toNat : Int)
        · have HW := Lib.hid (quoteW_esc c2 c3 c4)
          have c5 : (s[k].toNat : Int) < 32 ∨ (¬ (s[k].toNat : Int) < 32 ∧ 126 < (s[k].toNat : Int)) := by omega
          clear c4
          rcases c5 with c4 | ⟨c4, c5⟩
          all_goals
            go_wp2_with (at_builtin; refine wpl_append_g wr rfl (.tmp 37) (.tmp 48) elemU8 rfl bv_one1 w.heap.size (.slice av dl cv) ([34] ++ xs) rfl hown _ (octetEsc s[k]) hesc.out 4 4 rfl rfl hBz (by have := hlen.out; unfold maxLen; simp [octetEsc] at this ⊢; omega) (by have := hlen.out; simp [octetEsc] at this ⊢; omega) ?_; intro v2 w2 hown2 hg2; have hB2 := hB.grown hg2 hBz hown.base_le)
            go_roundw
            case rel => exact ⟨k + 1, by go_num, by omega, by rw [HSN.out, HW.out, ← List.append_assoc]; exact hown2, hB2⟩
            case measure => simp [intOf]; omega
        · have c5 : ¬ (s[k].toNat : Int) < 32 := by omega
          have c6 : ¬ 126 < (s[k].toNat : Int) := by omega
          have HW := Lib.hid (quoteW_plain c2 c3 (by omega) (by omega))
          clear c4
          go_wp2_with (at_builtin; refine wpl_append_g wr rfl (.tmp 15) (.tmp 17) elemU8 rfl bv_one1 w.heap.size (.slice av dl cv) ([34] ++ xs) rfl hown [.int .u8 (s[k].toNat : Int)] [s[k]] rfl 1 1 rfl rfl hBz (by have := hlen.out; unfold maxLen; simp at this ⊢; omega) (by have := hlen.out; simp at this ⊢; omega) ?_; intro v2 w2 hown2 hg2; have hB2 := hB.grown hg2 hBz hown.base_le)
          go_roundw
          case rel => exact ⟨k + 1, by go_num, by omega, by rw [HSN.out, HW.out, ← List.append_assoc]; exact hown2, hB2⟩
          case measure => simp [intOf]; omega
    · obtain rfl : k = s.size := by omega
      have hlen := Lib.hid (show ([34] ++ quoteF (s.data.toList.take s.size)).length ≤ 4398046511200 by simp at hql htl ⊢; omega)
      clear hql htl
      generalize quoteF (s.data.toList.take s.size) = xs at *
      go_wp2_with (at_builtin; refine wpl_append_g wr rfl (.tmp 51) (.tmp 52) elemU8 rfl bv_one1 w.heap.size (.slice av dl cv) ([34] ++ xs) rfl hown [.int .u8 34] [34] rfl 1 1 rfl rfl hBz (by have := hlen.out; unfold maxLen; simp at this ⊢; omega) (by have := hlen.out; simp at this ⊢; omega) ?_; intro v2 w2 hown2 hg2; have hB2 := hB.grown hg2 hBz hown.base_le; have hcv := OwnU8.string hown2)
      go_ret
      exact ⟨by rw [HQ.out]; rfl, hB2⟩
end Go.Proofs.YtfcdajldpnomfaaGreatDoor

/-
  rdata.readGroups.
-/
namespace Go.Proofs.YtfcdajldpnomfaaGreatDoor
set_option maxRecDepth 20000
open Go.RowKit Go.Shelf

theorem groups_bad {p : List UInt8} {r : Nm} (h : p.length < 1 ∨ 4 < p.length ∨ p.all hexB = false) : groupsR (p :: r) = ([], 2) := by rw [groupsR, if_pos h]
theorem groups_ok {p : List UInt8} {r : Nm} (h : ¬ (p.length < 1 ∨ 4 < p.length ∨ p.all hexB = false)) : groupsR (p :: r) = join [UInt8.ofNat (groupV p / 256), UInt8.ofNat (groupV p % 256)] (groupsR r) := by
  rw [groupsR, if_neg h]; unfold join; rfl
theorem groups_nil (l : Nm) : groupsR l = join [] (groupsR l) := by
  unfold join
  induction l with
  | nil => rfl
  | cons p r _ =>
    by_cases h : p.length < 1 ∨ 4 < p.length ∨ p.all hexB = false
    · rw [groups_bad h]; rfl
    · rw [groups_ok h]
      unfold join
      by_cases h2 : (groupsR r).2 = 0
      · simp [h2]
      · simp [h2]
theorem groupV_snoc (l : List UInt8) (c : UInt8) : groupV (l ++ [c]) = 16 * groupV l + hexV c := by simp [groupV]
theorem groupV_lt (l : List UInt8) : groupV l < 16 ^ l.length := by
  have key : ∀ (l : List UInt8) (n : Nat), l.foldl (fun n c => 16 * n + hexV c) n < (n + 1) * 16 ^ l.length := by
    intro l
    induction l with
    | nil => intro n; simp
    | cons c r ih =>
      intro n
      have h1 := ih (16 * n + hexV c)
      have h2 := hexV_lt c
      have h3 : (16 * n + hexV c + 1) * 16 ^ r.length ≤ ((n + 1) * 16) * 16 ^ r.length := Nat.mul_le_mul_right _ (by omega)
      rw [List.foldl_cons, List.length_cons, Nat.pow_succ, Nat.mul_comm (16 ^ r.length) 16, ← Nat.mul_assoc]
      omega
  have := key l 0
  simpa [groupV] using this
theorem groupV_le4 {l : List UInt8} (h : l.length ≤ 4) : groupV l ≤ 65535 := by
  have h1 := groupV_lt l
  have h2 : 16 ^ l.length ≤ 16 ^ 4 := Nat.pow_le_pow_right (by decide) h
  have h3 : (16 : Nat) ^ 4 = 65536 := by decide
  omega
theorem i64_or_nat (a b : Nat) (ha : a < 9223372036854775808) (hb : b < 9223372036854775808) : bits .or .i64 (a : Int) (b : Int) = ((a ||| b : Nat) : Int) := by
  have hx : a ||| b < 2 ^ 63 := Nat.or_lt_two_pow (by omega) (by omega)
  have o : ∀ c : Nat, c < 9223372036854775808 → (BitVec.ofInt 64 (c : Int)).toNat = c := fun c hc => by
    rw [BitVec.ofInt_natCast, BitVec.toNat_ofNat]; exact Nat.mod_eq_of_lt (by omega)
  show IntKind.i64.wrap ((BitVec.ofInt 64 (a : Int) ||| BitVec.ofInt 64 (b : Int)).toNat : Int) = _
  rw [BitVec.toNat_or, o a ha, o b hb, IntKind.wrap_i64]
  omega
theorem or_nibble (g v : Nat) (hv : v < 16) (hg : g ≤ 4095) : bits .or .i64 ((g : Int) * 16) (v : Int) = ((16 * g + v : Nat) : Int) := by
  rw [show ((g : Int) * 16) = ((16 * g : Nat) : Int) by omega, i64_or_nat _ _ (by omega) (by omega)]
  congr 1
  exact (Nat.two_pow_add_eq_or_of_lt (i := 4) (by omega) g).symm

end Go.Proofs.YtfcdajldpnomfaaGreatDoor

/-
  rdata.counted, whatever the type.
-/
namespace Go.Proofs.YtfcdajldpnomfaaGreatDoor
set_option maxRecDepth 20000
open Go.RowKit Go.Shelf

theorem countedM_lit (d : Dat) (a b r : Nat) (h : countsM d.ty = ((a : Int), (b : Int), (r : Int))) (h16 : d.ty ≠ 16) : countedM d = decide (d.names.length = a ∧ d.nums.length = b ∧ d.texts.length = 0 ∧ d.raw.length = r) := by
  unfold countedM
  rw [h]
  apply decide_eq_decide.2
  rw [if_neg h16]
  show (d.names.length : Int) = (a : Int) ∧ (d.nums.length : Int) = (b : Int) ∧ _ ∧ ((0 : Int) ≤ (r : Int) → (d.raw.length : Int) = (r : Int)) ↔ _
  constructor
  · rintro ⟨h1, h2, h3, h4⟩
    have := h4 (by omega)
    exact ⟨by omega, by omega, h3, by omega⟩
  · rintro ⟨h1, h2, h3, h4⟩
    exact ⟨by omega, by omega, h3, fun _ => by omega⟩
theorem rdata_counted (v : Value) (d : Dat) (w : World) (hA : DatAt w v d) :
    Calls Tryz.prog 65 #[v] w fun e w' => e = .returned (.bool (countedM d)) ∧ Below w.heap.size w w' := by
  obtain ⟨vn, vu, vt, vr, rfl, ⟨vs, ⟨an, cn, rfl, _⟩, hl, _⟩, ⟨au, cu, rfl, _⟩, ⟨⟨ax, cx, rfl, _⟩, _⟩, ⟨ar, cr, rfl, _⟩⟩ := hA
  rw [hl, List.length_map, List.length_map]
  have key : ∀ (t : Int) (p : Bool), d.ty = t → countedM d = p → (Calls Tryz.prog 65 #[.agg #[.int .i64 t, .slice an d.names.length cn, .slice au d.nums.length cu, .slice ax d.texts.length cx, .slice ar d.raw.length cr]] w fun e w' => e = .returned (.bool p) ∧ Below w.heap.size w w') →
      Calls Tryz.prog 65 #[.agg #[.int .i64 d.ty, .slice an d.names.length cn, .slice au d.nums.length cu, .slice ax d.texts.length cx, .slice ar d.raw.length cr]] w fun e w' => e = .returned (.bool (countedM d)) ∧ Below w.heap.size w w' := by
    rintro t p h1 h2 h; rw [h1, h2]; exact h
  by_cases h1 : d.ty = 1
  · refine key 1 _ h1 ?_ (counted_1 an au ax ar _ _ _ _ cn cu cx cr w)
    exact countedM_lit d 0 0 4 (by rw [h1]; rfl) (by omega)
  by_cases h28 : d.ty = 28
  · refine key 28 _ h28 ?_ (counted_28 an au ax ar _ _ _ _ cn cu cx cr w)
    exact countedM_lit d 0 0 16 (by rw [h28]; rfl) (by omega)
  by_cases h2 : d.ty = 2
  · refine key 2 _ h2 ?_ (counted_2 an au ax ar _ _ _ _ cn cu cx cr w)
    exact countedM_lit d 1 0 0 (by rw [h2]; rfl) (by omega)
  by_cases h5 : d.ty = 5
  · refine key 5 _ h5 ?_ (counted_5 an au ax ar _ _ _ _ cn cu cx cr w)
    exact countedM_lit d 1 0 0 (by rw [h5]; rfl) (by omega)
  by_cases h12 : d.ty = 12
  · refine key 12 _ h12 ?_ (counted_12 an au ax ar _ _ _ _ cn cu cx cr w)
    exact countedM_lit d 1 0 0 (by rw [h12]; rfl) (by omega)
  by_cases h39 : d.ty = 39
  · refine key 39 _ h39 ?_ (counted_39 an au ax ar _ _ _ _ cn cu cx cr w)
    exact countedM_lit d 1 0 0 (by rw [h39]; rfl) (by omega)
  by_cases h15 : d.ty = 15
  · refine key 15 _ h15 ?_ (counted_15 an au ax ar _ _ _ _ cn cu cx cr w)
    exact countedM_lit d 1 1 0 (by rw [h15]; rfl) (by omega)
  by_cases h6 : d.ty = 6
  · refine key 6 _ h6 ?_ (counted_6 an au ax ar _ _ _ _ cn cu cx cr w)
    exact countedM_lit d 2 5 0 (by rw [h6]; rfl) (by omega)
  by_cases h16 : d.ty = 16
  · refine key 16 _ h16 ?_ (counted_16 an au ax ar _ _ _ _ cn cu cx cr w)
    unfold countedM
    rw [show countsM d.ty = (0, 0, 0) by rw [h16]; rfl]
    apply decide_eq_decide.2
    rw [if_pos h16]
    show (d.names.length : Int) = 0 ∧ (d.nums.length : Int) = 0 ∧ _ ∧ ((0 : Int) ≤ 0 → (d.raw.length : Int) = 0) ↔ _
    constructor
    · rintro ⟨h1, h2, h3, h4⟩
      have := h4 (by omega)
      exact ⟨by omega, by omega, h3, by omega⟩
    · rintro ⟨h1, h2, h3, h4⟩
      exact ⟨by omega, by omega, h3, fun _ => by omega⟩
  refine key d.ty _ rfl ?_ (counted_other d.ty (by simpa using h1) (by simpa using h28) (by simpa using h2) (by simpa using h5) (by simpa using h12) (by simpa using h39) (by simpa using h15) (by simpa using h6) (by simpa using h16) an au ax ar _ _ _ _ cn cu cx cr w)
  have hc : countsM d.ty = (0, 0, -1) := by
    unfold countsM
    rw [if_neg h1, if_neg h28, if_neg (by omega), if_neg h15, if_neg h6, if_neg h16]
  unfold countedM
  rw [hc]
  apply decide_eq_decide.2
  rw [if_neg h16]
  show (d.names.length : Int) = 0 ∧ (d.nums.length : Int) = 0 ∧ _ ∧ ((0 : Int) ≤ -1 → (d.raw.length : Int) = -1) ↔ _
  constructor
  · rintro ⟨h1, h2, h3, h4⟩
    exact ⟨by omega, by omega, h3⟩
  · rintro ⟨h1, h2, h3⟩
    exact ⟨by omega, by omega, h3, fun h => by omega⟩
end Go.Proofs.YtfcdajldpnomfaaGreatDoor

