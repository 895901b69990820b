/-
  Words of data as they lie in memory; small laws that rdata's readers use: strings.Split at one octet, slices of octets.
-/
import Derived.Test.YtfcdajldpnomfaaMQ01
import Derived.Test.YtfcdajldpnomfaaMQ35
import Derived.Test.YtfcdajldpnomfaaMQ29
import Derived.Test.YtfcdajldpnomfaaMQ12
import Derived.Lib.Split
import Derived.Test.YtfcdajldpnomfaaMQ18
import Derived.Test.YtfcdajldpnomfaaMQ15
namespace Go.Proofs.Ytfcdajldpnomfaa
set_option maxRecDepth 20000
open Go.RowKit Go.Shelf
set_option maxRecDepth 20000

theorem elemU8 : ElemT 5 29 1 := ⟨Try.underlying29, _, _, rfl, rfl, rfl, rfl, rfl⟩
theorem elemU32 : ElemT 37 27 4 := ⟨Try.underlying27, _, _, rfl, rfl, rfl, rfl, rfl⟩
theorem bv_one1 (c : UInt8) : (bv c).oneCell' = true := rfl
theorem u32_one1 (c : Nat) : (u32V c).oneCell' = true := rfl
theorem bv_of {x : Int} {c : UInt8} (h : x = (c.toNat : Int)) : Value.int .u8 x = bv c := by subst h; rfl

/-- Octets and an error. -/
def BytesE (l : List UInt8) (er : Int) (w : World) (e : Ending) (w' : World) : Prop := ∃ v', e = .returned (.tuple #[v', .int .i64 er]) ∧ OwnG 5 bv w' w.heap.size v' l ∧ Below w.heap.size w w'
theorem bytesE_fin {q : List UInt8 × Int} {w w' : World} {e : Ending} {v : Value} (l : List UInt8) (er : Int) (h : q = (l, er)) (he : e = .returned (.tuple #[v, .int .i64 er])) (ho : OwnG 5 bv w' w.heap.size v l) (hb : Below w.heap.size w w') : BytesE q.1 q.2 w e w' := by
  subst h; exact ⟨v, he, ho, hb⟩
/-- Texts. -/
def StrsRes (l : Nm) (w : World) (e : Ending) (w' : World) : Prop := ∃ v', e = .returned v' ∧ OwnG 9 strV w' w.heap.size v' l ∧ Below w.heap.size w w'

/-! ### strings.Split at one octet -/
theorem idx_cons (b c : UInt8) (l : List UInt8) : Lib.index (b :: l) [c] = if b = c then 0 else if Lib.index l [c] = -1 then -1 else Lib.index l [c] + 1 := by
  have e : Lib.index (b :: l) [c] = if ([c] : List UInt8).isPrefixOf (b :: l) then 0 else if Lib.index l [c] == -1 then -1 else Lib.index l [c] + 1 := rfl
  rw [e]
  have h : (([c] : List UInt8).isPrefixOf (b :: l)) = decide (b = c) := by
    simp only [List.isPrefixOf, Bool.and_true]
    by_cases h : b = c
    · subst h; simp
    · have h2 : ¬ c = b := fun e => h e.symm
      simp [h, h2]
  rw [h]
  by_cases h1 : b = c
  · simp [h1]
  · simp [h1]
theorem split_one' (c : UInt8) : ∀ s, Lib.split s [c] = splitAtU c s ∧ (splitAtU c s).length = Lib.count s [c] + 1
  | [] => ⟨rfl, rfl⟩
  | b :: l => by
    obtain ⟨ih, ihl⟩ := split_one' c l
    have hn : ([c] : List UInt8) ≠ [] := by simp
    by_cases h : b = c
    · subst h
      have hi : Lib.index (b :: l) [b] = ((0 : Nat) : Int) := by rw [idx_cons, if_pos rfl]; rfl
      have hc := Lib.count_hit hn hi
      have e : Lib.split (b :: l) [b] = [] :: Lib.split l [b] := by
        unfold Lib.split
        rw [hc, Nat.add_comm 1]
        show (if Lib.index (b :: l) [b] == -1 then [b :: l] else _) = _
        rw [if_neg (by rw [hi]; decide), hi]
        rfl
      have e0 : splitAtU b (b :: l) = [] :: splitAtU b l := by
        show (if b = b then _ else _) = _
        rw [if_pos rfl]
      rw [e, ih, e0]
      refine ⟨rfl, ?_⟩
      rw [List.length_cons, ihl, hc]
      show _ = 1 + Lib.count l [b] + 1
      omega
    · have e0 : splitAtU c (b :: l) = match splitAtU c l with | [] => [[b]] | x :: t => (b :: x) :: t := by
        rw [splitAtU, if_neg h]
        cases splitAtU c l <;> rfl
      rcases Lib.index_spec l [c] with ⟨h1, _⟩ | ⟨i, h1, hi, _⟩
      · have hi : Lib.index (b :: l) [c] = -1 := by rw [idx_cons, if_neg h, if_pos h1]
        have e1 : Lib.split (b :: l) [c] = [b :: l] := by unfold Lib.split; rw [Lib.count_miss hi]; rfl
        have e2 : Lib.split l [c] = [l] := by unfold Lib.split; rw [Lib.count_miss h1]; rfl
        refine ⟨by rw [e1, e0, ← ih, e2], ?_⟩
        rw [e0, ← ih, e2, Lib.count_miss hi]; rfl
      · have hi2 : Lib.index (b :: l) [c] = ((i + 1 : Nat) : Int) := by rw [idx_cons, if_neg h, if_neg (by omega), h1]; rfl
        have hc2 := Lib.count_hit hn hi2
        have hc1 := Lib.count_hit hn h1
        have ed : (b :: l).drop (i + 1 + [c].length) = l.drop (i + [c].length) := by
          rw [show i + 1 + [c].length = (i + [c].length) + 1 by omega, List.drop_succ_cons]
        rw [ed] at hc2
        have e1 : Lib.split (b :: l) [c] = (b :: l.take i) :: Lib.split (l.drop (i + [c].length)) [c] := by
          unfold Lib.split
          rw [hc2, Nat.add_comm 1]
          show (if Lib.index (b :: l) [c] == -1 then [b :: l] else _) = _
          rw [if_neg (by rw [hi2]; simp <;> omega), hi2]
          show (b :: l).take (((i + 1 : Nat) : Int).toNat + 0) :: Lib.splitK [c] 0 _ ((b :: l).drop (((i + 1 : Nat) : Int).toNat + [c].length)) = _
          rw [Int.toNat_natCast, ed]
          try rfl
        have e2 : Lib.split l [c] = l.take i :: Lib.split (l.drop (i + [c].length)) [c] := by
          unfold Lib.split
          rw [hc1, Nat.add_comm 1]
          show (if Lib.index l [c] == -1 then [l] else _) = _
          rw [if_neg (by rw [h1]; simp <;> omega), h1]
          rfl
        refine ⟨by rw [e1, e0, ← ih, e2], ?_⟩
        have hl : (splitAtU c (b :: l)).length = (splitAtU c l).length := by rw [e0, ← ih, e2]; rfl
        rw [hl, ihl, hc2, hc1]
theorem split_one (c : UInt8) (s : List UInt8) : Lib.split s [c] = splitAtU c s := (split_one' c s).1
/-! ### words -/
def WdsAt (W : World) (v : Value) (l : List Wd) : Prop :=
  ∃ a c, v = .slice a l.length c ∧ l.length ≤ c ∧ (a = none → c = 0) ∧ (l = [] ∨ ∃ b off, a = some ⟨b, off, none⟩ ∧ b < W.heap.size ∧ ∀ j (hj : j < l.length), W.cell? ⟨b, off + j * 2, none⟩ = some (strV l[j].1) ∧ W.cell? ⟨b, off + j * 2 + 1, none⟩ = some (.bool l[j].2))
theorem WdsAt.below {W W' : World} {v : Value} {l : List Wd} (h : WdsAt W v l) (hb : Below W.heap.size W W') : WdsAt W' v l := by
  obtain ⟨a, c, e, h1, h2, h⟩ := h
  refine ⟨a, c, e, h1, h2, ?_⟩
  rcases h with h | ⟨b, off, ea, hlt, hc⟩
  · exact .inl h
  · exact .inr ⟨b, off, ea, Nat.lt_of_lt_of_le hlt hb.size, fun j hj => ⟨(hb.cell (p := ⟨b, off + j * 2, none⟩) hlt).trans (hc j hj).1, (hb.cell (p := ⟨b, off + j * 2 + 1, none⟩) hlt).trans (hc j hj).2⟩⟩
theorem WdsAt.cell {W W' : World} {a : Option Addr} {n c : Nat} {l : List Wd} (h : WdsAt W (.slice a n c) l) (hb : Below W.heap.size W W') (j : Nat) (hj : j < l.length) :
    ∃ b off, a = some ⟨b, off, none⟩ ∧ b < W.heap.size ∧ W'.cell? ⟨b, off + j * 2, none⟩ = some (strV l[j].1) ∧ W'.cell? ⟨b, off + j * 2 + 1, none⟩ = some (.bool l[j].2) := by
  obtain ⟨a', c', e, _, _, h⟩ := h
  cases e
  rcases h with h | ⟨b, off, ea, hlt, hc⟩
  · subst h; simp at hj
  · exact ⟨b, off, ea, hlt, (hb.cell (p := ⟨b, off + j * 2, none⟩) hlt).trans (hc j hj).1, (hb.cell (p := ⟨b, off + j * 2 + 1, none⟩) hlt).trans (hc j hj).2⟩
def WdsOK (l : List Wd) : Prop := l.length ≤ 1048576 ∧ ∀ x ∈ l, x.1.length ≤ 500000
end Go.Proofs.Ytfcdajldpnomfaa

/-
  rdata.quoted, rdata.readAddress.
-/
namespace Go.Proofs.Ytfcdajldpnomfaa
set_option maxRecDepth 20000
open Go.RowKit Go.Shelf

/-! ### quoted -/
def quoteF (l : List UInt8) : List UInt8 := l.flatMap quoteW
theorem quoteF_snoc (l : List UInt8) (c : UInt8) : quoteF (l ++ [c]) = quoteF l ++ quoteW c := by simp [quoteF]
theorem quoteW_sign {c : UInt8} (h : ((c.toNat : Int) == 34) = true ∨ ((c.toNat : Int) == 92) = true) : quoteW c = [92, c] := by
  unfold quoteW
  rw [if_pos]
  rcases h with h | h
  · exact .inl (u8_is (n := 34) (by omega) h)
  · exact .inr (u8_is (n := 92) (by omega) h)
theorem quoteW_esc {c : UInt8} (h1 : ((c.toNat : Int) == 34) = false) (h2 : ((c.toNat : Int) == 92) = false) (h : (c.toNat : Int) < 32 ∨ 126 < (c.toNat : Int)) : quoteW c = octetEsc c := by
  have n1 : c ≠ 34 := u8_isnt (n := 34) (by omega) h1
  have n2 : c ≠ 92 := u8_isnt (n := 92) (by omega) h2
  unfold quoteW
  rw [if_neg (by rintro (h | h) <;> contradiction), if_pos (by omega)]
theorem quoteW_plain {c : UInt8} (h1 : ((c.toNat : Int) == 34) = false) (h2 : ((c.toNat : Int) == 92) = false) (h3 : 32 ≤ (c.toNat : Int)) (h4 : (c.toNat : Int) ≤ 126) : quoteW c = [c] := by
  have n1 : c ≠ 34 := u8_isnt (n := 34) (by omega) h1
  have n2 : c ≠ 92 := u8_isnt (n := 92) (by omega) h2
  unfold quoteW
  rw [if_neg (by rintro (h | h) <;> contradiction), if_neg (by omega)]
theorem quoteW_le (c : UInt8) : (quoteW c).length ≤ 4 := by
  unfold quoteW; split
  · simp
  · split <;> simp [octetEsc]
theorem quoteF_le (l : List UInt8) : (quoteF l).length ≤ 4 * l.length := by
  induction l with
  | nil => simp [quoteF]
  | cons c r ih => have := quoteW_le c; simp only [quoteF, List.flatMap_cons, List.length_append, List.length_cons] at ih ⊢; omega

theorem lit_u8 (w : World) (l : List UInt8) (h : l.length ≤ 140737488355328) : OwnG 5 bv (w.alloc (.cells (l.map bv).toArray 5)) w.heap.size (.slice (some ⟨w.heap.size, 0, none⟩) l.length l.length) l :=
  OwnG.lit (T := 5) (enc := bv) w w.heap.size (Nat.le_refl _) l (by unfold maxLen; omega)

end Go.Proofs.Ytfcdajldpnomfaa

/-
  Package rtype's table looked up: by the number, by the name.
-/
namespace Go.Proofs.Ytfcdajldpnomfaa
set_option maxRecDepth 20000
open Go.RowKit Go.Shelf

theorem fin_prefix {n : Nat} {p : List (Fin n)} {x : Fin n} (h : (p ++ [x]) <+: List.finRange n) : ∀ j : Fin n, j.val < x.val → j ∈ p := by
  have hl : p.length + 1 ≤ n := by have := h.length_le; simpa using this
  have hg : ∀ i (h1 : i < p.length + 1), (p ++ [x])[i]'(by simpa using h1) = ⟨i, by omega⟩ := fun i h1 => by
    have := h.getElem (i := i) (by simpa using h1)
    rw [this]; simp
  have hx : x.val = p.length := by
    have := hg p.length (by omega)
    rw [List.getElem_append_right (Nat.le_refl _)] at this
    simp at this; rw [this]
  intro j hj
  have h1 : j.val < p.length := by omega
  have := hg j.val (by omega)
  rw [List.getElem_append_left h1] at this
  rw [← show p[j.val] = j from this]; exact List.getElem_mem h1
theorem results_sb {fn : Func} {t u : Tmp} {S B : TypeId} (h : fn.results = #[.cell t S, .cell u B]) (hS : Try.prog.underlying S = some .string) (hB : Try.prog.underlying B = some .bool) (tmps : Array Value) (W : World) {a b : Nat} {v z : Value}
    (ht : tmps.getD t undef = .pointer (some ⟨a, 0, none⟩)) (hu : tmps.getD u undef = .pointer (some ⟨b, 0, none⟩)) (hc : W.cell? ⟨a, 0, none⟩ = some v) (hd : W.cell? ⟨b, 0, none⟩ = some z) : (results fn tmps).run Try.prog W = .ok (.tuple #[v, z]) W := by
  have ht' : tmps[t]?.getD undef = .pointer (some ⟨a, 0, none⟩) := by rw [← ht]; simp
  have hu' : tmps[u]?.getD undef = .pointer (some ⟨b, 0, none⟩) := by rw [← hu]; simp
  have h1 : ∀ w, Sem.run Try.prog (underlying S) w = .ok _ w := run_underlying hS
  have h2 : ∀ w, Sem.run Try.prog (underlying B) w = .ok _ w := run_underlying hB
  simp [results, h, ht', hu', loadVar, asAddr, go_sem, h1, h2, hc, hd, isAgg]
theorem results_ib {fn : Func} {t u : Tmp} {S B : TypeId} {k : IntKind} (h : fn.results = #[.cell t S, .cell u B]) (hS : Try.prog.underlying S = some (.int k)) (hB : Try.prog.underlying B = some .bool) (tmps : Array Value) (W : World) {a b : Nat} {v z : Value}
    (ht : tmps.getD t undef = .pointer (some ⟨a, 0, none⟩)) (hu : tmps.getD u undef = .pointer (some ⟨b, 0, none⟩)) (hc : W.cell? ⟨a, 0, none⟩ = some v) (hd : W.cell? ⟨b, 0, none⟩ = some z) : (results fn tmps).run Try.prog W = .ok (.tuple #[v, z]) W := by
  have ht' : tmps[t]?.getD undef = .pointer (some ⟨a, 0, none⟩) := by rw [← ht]; simp
  have hu' : tmps[u]?.getD undef = .pointer (some ⟨b, 0, none⟩) := by rw [← hu]; simp
  have h1 : ∀ w, Sem.run Try.prog (underlying S) w = .ok _ w := run_underlying hS
  have h2 : ∀ w, Sem.run Try.prog (underlying B) w = .ok _ w := run_underlying hB
  simp [results, h, ht', hu', loadVar, asAddr, go_sem, h1, h2, hc, hd, isAgg]
theorem rowOfT_at {t : Int} {x : Fin 9} {p : List (Fin 9)} (hp : (p ++ [x]) <+: List.finRange 9) (h : typeT x.val = t) (hn : ∀ j ∈ p, typeT j.val ≠ t) : rowOfT t = some x.val :=
  rowOfT_first x.isLt h (fun j hj => hn ⟨j, Nat.lt_trans hj x.isLt⟩ (fin_prefix hp ⟨j, Nat.lt_trans hj x.isLt⟩ hj))
theorem rowOfS_at {t : List UInt8} {x : Fin 9} {p : List (Fin 9)} (hp : (p ++ [x]) <+: List.finRange 9) (h : typeS x.val = t) (hn : ∀ j ∈ p, typeS j.val ≠ t) : rowOfS t = some x.val :=
  rowOfS_first x.isLt h (fun j hj => hn ⟨j, Nat.lt_trans hj x.isLt⟩ (fin_prefix hp ⟨j, Nat.lt_trans hj x.isLt⟩ hj))
def keyOfM (s : List UInt8) : Int × Bool := match rowOfS s with | some j => (typeT j, true) | none => (0, false)

section
attribute [local go_sem] Oper.semAt_some
end
end Go.Proofs.Ytfcdajldpnomfaa

