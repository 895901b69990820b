/-
  Words of data as they lie in memory; small laws that rdata's readers use: strings.Split at one octet, slices of octets.
-/
import Derived.Test.YtckammgnmgkieaaMQ36
import Derived.Test.YtckammgnmgkieaaMQ10
import Derived.Test.YtckammgnmgkieaaMQ23
import Derived.Lib.Split
import Derived.Lib.Repeat
import Derived.Test.YtckammgnmgkieaaMQ16
namespace Go.Proofs.Ytckammgnmgkieaa
set_option maxRecDepth 20000
open Go.RowKit Go.Shelf
set_option maxRecDepth 20000

theorem elemU8 : ElemT 5 29 1 := ⟨Try.underlying29, _, _, rfl, rfl, rfl, rfl, rfl⟩
theorem elemU32 : ElemT 26 28 4 := ⟨Try.underlying28, _, _, rfl, rfl, rfl, rfl, rfl⟩
theorem bv_one1 (c : UInt8) : (bv c).oneCell' = true := rfl
theorem u32_one1 (c : Nat) : (u32V c).oneCell' = true := rfl
theorem bv_of {x : Int} {c : UInt8} (h : x = (c.toNat : Int)) : Value.int .u8 x = bv c := by subst h; rfl

/-- Octets and an error. -/
def BytesE (l : List UInt8) (er : Int) (w : World) (e : Ending) (w' : World) : Prop := ∃ v', e = .returned (.tuple #[v', .int .i64 er]) ∧ OwnG 5 bv w' w.heap.size v' l ∧ Below w.heap.size w w'
theorem bytesE_fin {q : List UInt8 × Int} {w w' : World} {e : Ending} {v : Value} (l : List UInt8) (er : Int) (h : q = (l, er)) (he : e = .returned (.tuple #[v, .int .i64 er])) (ho : OwnG 5 bv w' w.heap.size v l) (hb : Below w.heap.size w w') : BytesE q.1 q.2 w e w' := by
  subst h; exact ⟨v, he, ho, hb⟩
/-- Texts. -/
def StrsRes (l : Nm) (w : World) (e : Ending) (w' : World) : Prop := ∃ v', e = .returned v' ∧ OwnG 9 strV w' w.heap.size v' l ∧ Below w.heap.size w w'

/-! ### strings.Split at one octet -/
theorem idx_cons (b c : UInt8) (l : List UInt8) : Lib.index (b :: l) [c] = if b = c then 0 else if Lib.index l [c] = -1 then -1 else Lib.index l [c] + 1 := by
  have e : Lib.index (b :: l) [c] = if ([c] : List UInt8).isPrefixOf (b :: l) then 0 else if Lib.index l [c] == -1 then -1 else Lib.index l [c] + 1 := rfl
  rw [e]
  have h : (([c] : List UInt8).isPrefixOf (b :: l)) = decide (b = c) := by
    simp only [List.isPrefixOf, Bool.and_true]
    by_cases h : b = c
    · subst h; simp
    · have h2 : ¬ c = b := fun e => h e.symm
      simp [h, h2]
  rw [h]
  by_cases h1 : b = c
  · simp [h1]
  · simp [h1]
theorem split_one' (c : UInt8) : ∀ s, Lib.split s [c] = splitAtU c s ∧ (splitAtU c s).length = Lib.count s [c] + 1
  | [] => ⟨rfl, rfl⟩
  | b :: l => by
    obtain ⟨ih, ihl⟩ := split_one' c l
    have hn : ([c] : List UInt8) ≠ [] := by simp
    by_cases h : b = c
    · subst h
      have hi : Lib.index (b :: l) [b] = ((0 : Nat) : Int) := by rw [idx_cons, if_pos rfl]; rfl
      have hc := Lib.count_hit hn hi
      have e : Lib.split (b :: l) [b] = [] :: Lib.split l [b] := by
        unfold Lib.split
        rw [hc, Nat.add_comm 1]
        show (if Lib.index (b :: l) [b] == -1 then [b :: l] else _) = _
        rw [if_neg (by rw [hi]; decide), hi]
        rfl
      have e0 : splitAtU b (b :: l) = [] :: splitAtU b l := by
        show (if b = b then _ else _) = _
        rw [if_pos rfl]
      rw [e, ih, e0]
      refine ⟨rfl, ?_⟩
      rw [List.length_cons, ihl, hc]
      show _ = 1 + Lib.count l [b] + 1
      omega
    · have e0 : splitAtU c (b :: l) = match splitAtU c l with | [] => [[b]] | x :: t => (b :: x) :: t := by
        rw [splitAtU, if_neg h]
        cases splitAtU c l <;> rfl
      rcases Lib.index_spec l [c] with ⟨h1, _⟩ | ⟨i, h1, hi, _⟩
      · have hi : Lib.index (b :: l) [c] = -1 := by rw [idx_cons, if_neg h, if_pos h1]
        have e1 : Lib.split (b :: l) [c] = [b :: l] := by unfold Lib.split; rw [Lib.count_miss hi]; rfl
        have e2 : Lib.split l [c] = [l] := by unfold Lib.split; rw [Lib.count_miss h1]; rfl
        refine ⟨by rw [e1, e0, ← ih, e2], ?_⟩
        rw [e0, ← ih, e2, Lib.count_miss hi]; rfl
      · have hi2 : Lib.index (b :: l) [c] = ((i + 1 : Nat) : Int) := by rw [idx_cons, if_neg h, if_neg (by omega), h1]; rfl
        have hc2 := Lib.count_hit hn hi2
        have hc1 := Lib.count_hit hn h1
        have ed : (b :: l).drop (i + 1 + [c].length) = l.drop (i + [c].length) := by
          rw [show i + 1 + [c].length = (i + [c].length) + 1 by omega, List.drop_succ_cons]
        rw [ed] at hc2
        have e1 : Lib.split (b :: l) [c] = (b :: l.take i) :: Lib.split (l.drop (i + [c].length)) [c] := by
          unfold Lib.split
          rw [hc2, Nat.add_comm 1]
          show (if Lib.index (b :: l) [c] == -1 then [b :: l] else _) = _
          rw [if_neg (by rw [hi2]; simp <;> omega), hi2]
          show (b :: l).take (((i + 1 : Nat) : Int).toNat + 0) :: Lib.splitK [c] 0 _ ((b :: l).drop (((i + 1 : Nat) : Int).toNat + [c].length)) = _
          rw [Int.toNat_natCast, ed]
          try rfl
        have e2 : Lib.split l [c] = l.take i :: Lib.split (l.drop (i + [c].length)) [c] := by
          unfold Lib.split
          rw [hc1, Nat.add_comm 1]
          show (if Lib.index l [c] == -1 then [l] else _) = _
          rw [if_neg (by rw [h1]; simp <;> omega), h1]
          rfl
        refine ⟨by rw [e1, e0, ← ih, e2], ?_⟩
        have hl : (splitAtU c (b :: l)).length = (splitAtU c l).length := by rw [e0, ← ih, e2]; rfl
        rw [hl, ihl, hc2, hc1]
theorem split_one (c : UInt8) (s : List UInt8) : Lib.split s [c] = splitAtU c s := (split_one' c s).1
/-! ### words -/
def WdsAt (W : World) (v : Value) (l : List Wd) : Prop :=
  ∃ a c, v = .slice a l.length c ∧ l.length ≤ c ∧ (a = none → c = 0) ∧ (l = [] ∨ ∃ b off, a = some ⟨b, off, none⟩ ∧ b < W.heap.size ∧ ∀ j (hj : j < l.length), W.cell? ⟨b, off + j * 2, none⟩ = some (strV l[j].1) ∧ W.cell? ⟨b, off + j * 2 + 1, none⟩ = some (.bool l[j].2))
theorem WdsAt.below {W W' : World} {v : Value} {l : List Wd} (h : WdsAt W v l) (hb : Below W.heap.size W W') : WdsAt W' v l := by
  obtain ⟨a, c, e, h1, h2, h⟩ := h
  refine ⟨a, c, e, h1, h2, ?_⟩
  rcases h with h | ⟨b, off, ea, hlt, hc⟩
  · exact .inl h
  · exact .inr ⟨b, off, ea, Nat.lt_of_lt_of_le hlt hb.size, fun j hj => ⟨(hb.cell (p := ⟨b, off + j * 2, none⟩) hlt).trans (hc j hj).1, (hb.cell (p := ⟨b, off + j * 2 + 1, none⟩) hlt).trans (hc j hj).2⟩⟩
theorem WdsAt.cell {W W' : World} {a : Option Addr} {n c : Nat} {l : List Wd} (h : WdsAt W (.slice a n c) l) (hb : Below W.heap.size W W') (j : Nat) (hj : j < l.length) :
    ∃ b off, a = some ⟨b, off, none⟩ ∧ b < W.heap.size ∧ W'.cell? ⟨b, off + j * 2, none⟩ = some (strV l[j].1) ∧ W'.cell? ⟨b, off + j * 2 + 1, none⟩ = some (.bool l[j].2) := by
  obtain ⟨a', c', e, _, _, h⟩ := h
  cases e
  rcases h with h | ⟨b, off, ea, hlt, hc⟩
  · subst h; simp at hj
  · exact ⟨b, off, ea, hlt, (hb.cell (p := ⟨b, off + j * 2, none⟩) hlt).trans (hc j hj).1, (hb.cell (p := ⟨b, off + j * 2 + 1, none⟩) hlt).trans (hc j hj).2⟩
def WdsOK (l : List Wd) : Prop := l.length ≤ 1048576 ∧ ∀ x ∈ l, x.1.length ≤ 500000
end Go.Proofs.Ytckammgnmgkieaa

/-
  rdata.form, rdata.readHalves.
-/
namespace Go.Proofs.Ytckammgnmgkieaa
set_option maxRecDepth 20000
open Go.RowKit Go.Shelf

theorem repeat_rep (x : UInt8) : ∀ c, Lib.repeatL [x] c = List.replicate c x
  | 0 => rfl
  | c + 1 => by rw [Lib.repeatL, repeat_rep x c]; rfl

/-! ### halves -/
theorem halvesOK_snoc (l : List Wd) (x : Wd) : halvesOK (l ++ [x]) = (halvesOK l && (!x.2 && x.1.all hexB)) := by simp [halvesOK]
theorem halvesL_snoc (l : List Wd) (x : Wd) : halvesL (l ++ [x]) = halvesL l ++ x.1.map hexW := by simp [halvesL]
theorem halves_not {l : List Wd} {k : Nat} (hk : k < l.length) (h : l[k].2 = true ∨ l[k].1.all hexB = false) : halvesOK l = false := by
  cases e : halvesOK l with
  | false => rfl
  | true =>
    unfold halvesOK at e; rw [List.all_eq_true] at e
    have := e _ (List.getElem_mem hk)
    rcases h with h | h <;> rw [h] at this <;> simp at this
theorem all_not {l : List UInt8} {j : Nat} (hj : j < l.length) (h : hexB l[j] = false) : l.all hexB = false := by
  cases e : l.all hexB with
  | false => rfl
  | true => rw [List.all_eq_true] at e; have := e _ (List.getElem_mem hj); rw [h] at this; cases this
theorem hexW_nat (c : UInt8) : ((hexV c : Int)) = ((hexW c).toNat : Int) := by
  have := hexV_lt c
  unfold hexW
  have h : (UInt8.ofNat (hexV c)).toNat = hexV c := by simp; omega
  rw [h]
theorem OwnG.ne_block {α : Type} {T : TypeId} {enc : α → Value} {W : World} {base : Nat} {v : Value} {xs : List α} (h : OwnG T enc W base v xs) {B : Nat} {cs : Array Value} {t : TypeId} (hB : W.heap[B]? = some (.cells cs t)) (ht : t ≠ T) : some B ≠ v.ownBlock := by
  rcases h.2 with ⟨rfl, _⟩ | ⟨g, cap, cur, rfl, _, hg, _⟩
  · simp [Value.ownBlock]
  · intro e
    obtain rfl : B = g := by simpa [Value.ownBlock] using e
    rw [hg] at hB
    cases hB
    exact ht rfl
theorem block_new (W : World) (o : Obj) : (W.alloc o).heap[W.heap.size]? = some o := by
  show (W.heap.push o)[W.heap.size]? = some o
  simp
theorem cell_of_block {W : World} {B : Nat} {cs : Array Value} {t : TypeId} (h : W.heap[B]? = some (.cells cs t)) (j : Nat) (v : Value) (hv : cs[j]? = some v) : W.cell? ⟨B, j, none⟩ = some v := by
  simp only [World.cell?, h]
  simpa using hv
/-- What readHalves answers. -/
def HalvesPost (l : List Wd) (w : World) (e : Ending) (w' : World) : Prop := ∃ v', e = .returned (.tuple #[v', .bool (halvesOK l)]) ∧ OwnG 5 bv w' w.heap.size v' (if halvesOK l = true then halvesL l else []) ∧ Below w.heap.size w w'
theorem halves_fin {l : List Wd} {w w' : World} {e : Ending} {v : Value} (b : Bool) (xs : List UInt8) (h : halvesOK l = b) (h2 : b = true → halvesL l = xs) (h3 : b = false → xs = []) (he : e = .returned (.tuple #[v, .bool b])) (ho : OwnG 5 bv w' w.heap.size v xs) (hb : Below w.heap.size w w') : HalvesPost l w e w' := by
  subst h
  refine ⟨v, he, ?_, hb⟩
  cases hh : halvesOK l with
  | true => rw [if_pos rfl, h2 hh]; exact ho
  | false => rw [if_neg (by simp), ← h3 hh]; exact ho

end Go.Proofs.Ytckammgnmgkieaa

/-
  rdata.readAddress, rdata.readGroups.
-/
namespace Go.Proofs.Ytckammgnmgkieaa
set_option maxRecDepth 20000
open Go.RowKit Go.Shelf

def CellsS (a : Option Addr) (ps : Nm) (W : World) : Prop := ∀ W', Below W.heap.size W W' → ∀ j (hj : j < ps.length), ∃ b off, a = some ⟨b, off, none⟩ ∧ b < W.heap.size ∧ W'.cell? ⟨b, off + j, none⟩ = some (strV ps[j])
theorem splitAtU_len (c : UInt8) : ∀ (s : List UInt8), (splitAtU c s).length ≤ s.length + 1 ∧ ∀ x ∈ splitAtU c s, x.length ≤ s.length
  | [] => by simp [splitAtU]
  | b :: r => by
    obtain ⟨h1, h2⟩ := splitAtU_len c r
    by_cases h : b = c
    · have e : splitAtU c (b :: r) = [] :: splitAtU c r := by rw [splitAtU, if_pos h]
      rw [e]
      refine ⟨by simp; omega, fun x hx => ?_⟩
      rcases List.mem_cons.1 hx with rfl | hx
      · simp
      · have := h2 x hx; simp; omega
    · have e : splitAtU c (b :: r) = match splitAtU c r with | [] => [[b]] | x :: t => (b :: x) :: t := by rw [splitAtU, if_neg h]; cases splitAtU c r <;> rfl
      rw [e]
      cases hs : splitAtU c r with
      | nil => simp
      | cons x t =>
        rw [hs] at h1 h2
        refine ⟨by simp at h1 ⊢; omega, fun y hy => ?_⟩
        rcases List.mem_cons.1 hy with rfl | hy
        · have := h2 x (by simp); simp; omega
        · have := h2 y (by simp [hy]); simp; omega
theorem addrs_err {p : List UInt8} {r : Nm} (h : (numM p 255).2 ≠ 0) : addrsM (p :: r) = ([], (numM p 255).2) := by rw [addrsM, if_pos h]
theorem addrs_ok {p : List UInt8} {r : Nm} (h : (numM p 255).2 = 0) : addrsM (p :: r) = join [UInt8.ofNat (numM p 255).1] (addrsM r) := by
  rw [addrsM, if_neg (by simpa using h)]; unfold join; rfl
theorem addrs_nil (l : Nm) : addrsM l = join [] (addrsM l) := by
  unfold join
  induction l with
  | nil => rfl
  | cons p r _ =>
    by_cases h : (numM p 255).2 = 0
    · rw [addrs_ok h]
      unfold join
      by_cases h2 : (addrsM r).2 = 0
      · simp [h2]
      · simp [h2]
    · rw [addrs_err h, if_neg h]

theorem numM_le (l : List UInt8) (most : Nat) : (numM l most).1 ≤ most := by
  unfold numM
  split
  · split
    · assumption
    · exact Nat.zero_le _
  · exact Nat.zero_le _
end Go.Proofs.Ytckammgnmgkieaa

/-
  rdata.quoted, rdata.readAddress.
-/
namespace Go.Proofs.Ytckammgnmgkieaa
set_option maxRecDepth 20000
open Go.RowKit Go.Shelf

/-! ### quoted -/
def quoteF (l : List UInt8) : List UInt8 := l.flatMap quoteW
theorem quoteF_snoc (l : List UInt8) (c : UInt8) : quoteF (l ++ [c]) = quoteF l ++ quoteW c := by simp [quoteF]
theorem quoteW_sign {c : UInt8} (h : ((c.toNat : Int) == 34) = true ∨ ((c.toNat : Int) == 92) = true) : quoteW c = [92, c] := by
  unfold quoteW
  rw [if_pos]
  rcases h with h | h
  · exact .inl (u8_is (n := 34) (by omega) h)
  · exact .inr (u8_is (n := 92) (by omega) h)
theorem quoteW_esc {c : UInt8} (h1 : ((c.toNat : Int) == 34) = false) (h2 : ((c.toNat : Int) == 92) = false) (h : (c.toNat : Int) < 32 ∨ 126 < (c.toNat : Int)) : quoteW c = octetEsc c := by
  have n1 : c ≠ 34 := u8_isnt (n := 34) (by omega) h1
  have n2 : c ≠ 92 := u8_isnt (n := 92) (by omega) h2
  unfold quoteW
  rw [if_neg (by rintro (h | h) <;> contradiction), if_pos (by omega)]
theorem quoteW_plain {c : UInt8} (h1 : ((c.toNat : Int) == 34) = false) (h2 : ((c.toNat : Int) == 92) = false) (h3 : 32 ≤ (c.toNat : Int)) (h4 : (c.toNat : Int) ≤ 126) : quoteW c = [c] := by
  have n1 : c ≠ 34 := u8_isnt (n := 34) (by omega) h1
  have n2 : c ≠ 92 := u8_isnt (n := 92) (by omega) h2
  unfold quoteW
  rw [if_neg (by rintro (h | h) <;> contradiction), if_neg (by omega)]
theorem quoteW_le (c : UInt8) : (quoteW c).length ≤ 4 := by
  unfold quoteW; split
  · simp
  · split <;> simp [octetEsc]
theorem quoteF_le (l : List UInt8) : (quoteF l).length ≤ 4 * l.length := by
  induction l with
  | nil => simp [quoteF]
  | cons c r ih => have := quoteW_le c; simp only [quoteF, List.flatMap_cons, List.length_append, List.length_cons] at ih ⊢; omega

theorem lit_u8 (w : World) (l : List UInt8) (h : l.length ≤ 140737488355328) : OwnG 5 bv (w.alloc (.cells (l.map bv).toArray 5)) w.heap.size (.slice (some ⟨w.heap.size, 0, none⟩) l.length l.length) l :=
  OwnG.lit (T := 5) (enc := bv) w w.heap.size (Nat.le_refl _) l (by unfold maxLen; omega)

end Go.Proofs.Ytckammgnmgkieaa

