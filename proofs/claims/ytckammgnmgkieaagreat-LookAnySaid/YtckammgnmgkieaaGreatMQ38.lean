import Derived.SliceStrings
import Derived.OpenShut
import Derived.Lib.ConvBytes
import Derived.Lib.IndexBytes
import Derived.Laws.Concat
import Derived.StillTail
import Derived.Sort.QuietTacIn
import Derived.Sort.LotA
import Derived.Test.YtckammgnmgkieaaGreatMQ17
namespace Go.Proofs.YtckammgnmgkieaaGreat
set_option maxRecDepth 20000
set_option maxHeartbeats 2000000
open Go.RowKit Go.Shelf
def StrsAt (W : World) (v : Value) (xs : List (List UInt8)) : Prop :=
 ∃ a c, v = .slice a xs.length c ∧ (xs = [] ∨ ∃ b off, a = some ⟨b, off, none⟩ ∧ b < W.heap.size ∧ ∀ j (hj : j < xs.length), W.cell? ⟨b, off + j, none⟩ = some (strV xs[j]))
theorem StrsAt.below {W W' : World} {v : Value} {xs : List (List UInt8)} (h : StrsAt W v xs) (hb : Below W.heap.size W W') : StrsAt W' v xs := by
 obtain ⟨a, c, e, h⟩ := h
 refine ⟨a, c, e, ?_⟩
 rcases h with h | ⟨b, off, ea, hlt, hc⟩
 ·exact .inl h
 ·exact .inr ⟨b, off, ea, Nat.lt_of_lt_of_le hlt hb.size, fun j hj => (hb.cell (p := ⟨b, off + j, none⟩) hlt).trans (hc j hj)⟩
theorem StrsAt.of_own {W : World} {base : Nat} {v : Value} {xs : List (List UInt8)} (h : OwnG 9 strV W base v xs) : StrsAt W v xs := by
 obtain ⟨a, c, rfl⟩ := h.shape
 refine ⟨a, c, rfl, ?_⟩
 by_cases hne : xs = []
 ·exact .inl hne
 ·obtain ⟨g, rfl, _, hlt, hc⟩ := h.cells hne
  exact .inr ⟨g, 0, rfl, hlt, fun j hj => by rw [Nat.zero_add]; exact hc j hj⟩
def qmH (W : World) (v : Value) (xs : List (List UInt8)) : Prop := StrsAt W v xs ∧ xs.length ≤ maxLen ∧ ∀ x ∈ xs, x.length ≤ maxLen
theorem qiR {W : World} {x : Addr} {l c : Nat} {zs : List ByteArray} (hl : l ≤ c) (hm : c ≤ maxLen) (hz : zs.length = c)
 (hcell : ∀ i, i < zs.length → W.cell? (x.add i) = some (.string (zs.getD i ByteArray.empty))) (hws : ∀ s ∈ zs, s.size ≤ maxLen) :
 qmH W (.slice (some x) l c) ((zs.take l).map (·.data.toList)) := by
 have hlen : ((zs.take l).map (·.data.toList)).length = l := by simp; omega
 refine ⟨⟨some x, c, by rw [hlen], ?_⟩, by omega, ?_⟩
 ·by_cases h0 : l = 0
  ·subst h0; left; simp
  ·right
   obtain ⟨b, off, spot⟩ := x
   have hspot : spot = none := by simpa [Addr.add] using World.cell?_spot (hcell 0 (by omega))
   subst hspot
   have hb : b < W.heap.size := by
    have h := hcell 0 (by omega)
    simp only [Addr.add, if_true] at h
    unfold World.cell? at h
    rcases Nat.lt_or_ge b W.heap.size with h' | h'
    ·exact h'
    ·rw [Array.getElem?_eq_none h'] at h; simp at h
   refine ⟨b, off, rfl, hb, fun j hj => ?_⟩
   rw [← Go.WideShapes.add_plain, hcell j (by omega)]
   have hj2 : j < zs.length := by omega
   simp [List.getD, hj2, strV]
 ·intro y hy
  obtain ⟨s, hs, rfl⟩ := List.mem_map.1 hy
  exact hws s (List.mem_of_mem_take hs)
theorem qf7 (s : ByteArray) (w : World) (hs : s.size ≤ maxLen) :
 Calls Tryz.prog 124 #[.string s] w fun e w' => e = .returned (.int .i64 (qam s.data.toList)) ∧ w = w' := by
 unfold maxLen at hs
 go_enter Tryz.func124, Tryz.ntmps124
 go_wp2
 all_goals go_ret
 all_goals refine ⟨qaE ?_, rfl⟩
 ·have := qeh (by assumption); show 8 = _; simp [qam, this]
 ·have h1 := qbE (by assumption); have h2 : 63 < (s.size : Int) := by assumption
  have h3 : 63 < s.data.toList.length := by rw [show s.data.toList.length = s.size from rfl]; omega
  show 3 = _; rw [qam, if_neg h1, if_pos h3]
 ·have h1 := qbE (by assumption); have h2 : (s.size : Int) ≤ 63 := by assumption
  have h3 : ¬ 63 < s.data.toList.length := by rw [show s.data.toList.length = s.size from rfl]; omega
  show 0 = _; rw [qam, if_neg h1, if_neg h3]
def orderM (a b : List UInt8) : Int := if Op.bytesLess a b then -1 else if a = b then 0 else 1
theorem qew (a b : ByteArray) (w : World) :
 Calls Tryz.prog 188 #[.string a, .string b] w fun e w' => e = .returned (.int .i64 (orderM a.data.toList b.data.toList)) ∧ w = w' := by
 have hA := qa4 a
 have hB := qa4 b
 have HA := qH0 hA; have HB := qH0 hB; clear hA hB
 by_cases h1 : Op.bytesLess a.toList b.toList = true
 ·have r : orderM a.data.toList b.data.toList = -1 := by unfold orderM; rw [← HA.out, ← HB.out, if_pos h1]
  have R := qH0 r; clear r
  go_enter Tryz.func188, Tryz.ntmps188
  go_wp2
  go_ret
  exact ⟨qaE R.out.symm, rfl⟩
 ·have h1f : Op.bytesLess a.toList b.toList = false := by simpa using h1
  by_cases h2 : (a.toList == b.toList) = true
  ·have r : orderM a.data.toList b.data.toList = 0 := by unfold orderM; rw [← HA.out, ← HB.out, if_neg h1, if_pos (by simpa using h2)]
   have R := qH0 r; clear r h1
   go_enter Tryz.func188, Tryz.ntmps188
   go_wp2
   go_ret
   exact ⟨qaE R.out.symm, rfl⟩
  ·have h2f : (a.toList == b.toList) = false := by simpa using h2
   have r : orderM a.data.toList b.data.toList = 1 := by unfold orderM; rw [← HA.out, ← HB.out, if_neg h1, if_neg (by simpa using h2)]
   have R := qH0 r; clear r h1 h2
   go_enter Tryz.func188, Tryz.ntmps188
   go_wp2
   go_ret
   exact ⟨qaE R.out.symm, rfl⟩
def memB (c : UInt8) (l : List UInt8) : Bool := decide (c ∈ l)
theorem qiv (c : UInt8) (s : ByteArray) (w : World) (hs : s.size ≤ maxLen) :
 Calls Tryz.prog 199 #[.int .u8 (c.toNat : Int), .string s] w fun e w' => e = .returned (.bool (memB c s.data.toList)) ∧ w = w' := by
 unfold maxLen at hs
 go_enter Tryz.func199, Tryz.ntmps199
 go_wp2
 go_loop [5] (fun i => ∃ k : Nat, i = .int .i64 k ∧ k ≤ s.size ∧ Hid (¬ c ∈ s.data.toList.take k)) (fun i => s.size - (intOf i).toNat)
 case atStart => exact ⟨0, rfl, Nat.zero_le _, qH0 (by simp)⟩
 case round =>
  obtain ⟨k, rfl, hk, HN⟩ := hrel
  by_cases hlt : k < s.size
  ·have hsn := qbl s k hlt
   have HS := qH0 hsn; clear hsn
   by_cases he : ((s[k].toNat : Int) == (c.toNat : Int)) = true
   ·have hc : c = s[k] := by
     have : (s[k].toNat : Int) = c.toNat := by simpa using he
     exact UInt8.toNat_inj.1 (by omega)
    have r : memB c s.data.toList = true := by
     apply decide_eq_true; apply List.mem_of_mem_take (i := k + 1); rw [HS.out, ← hc]; simp
    have R := qH0 r; clear r hc
    go_wp2
    go_ret
    exact ⟨qbs R.out.symm, rfl⟩
   ·have hef : ((s[k].toNat : Int) == (c.toNat : Int)) = false := by simpa using he
    have hc : c ≠ s[k] := by intro e; rw [e] at he; simp at he
    have hn2 : ¬ c ∈ s.data.toList.take (k + 1) := by rw [HS.out]; simp only [List.mem_append, List.mem_singleton]; rintro (h | h); exact HN.out h; exact hc h
    have HN2 := qH0 hn2; clear hn2 hc he
    go_wp2
    go_round
    case rel => exact ⟨k + 1, by go_num, by omega, HN2⟩
    case measure => simp [intOf]; omega
  ·obtain rfl : k = s.size := by omega
   have r : memB c s.data.toList = false := by apply decide_eq_false; have := HN.out; rwa [List.take_of_length_le (by simp)] at this
   have R := qH0 r; clear r
   go_wp2
   go_ret
   exact ⟨qbs R.out.symm, rfl⟩
theorem qj9 (c : UInt8) : memB c (⟨#[46, 92, 34, 40, 41, 59, 64, 36]⟩ : ByteArray).data.toList = qaC c := by
 unfold qaC memB
 congr 1
 apply propext
 simp only [List.mem_cons, List.not_mem_nil, or_false]
 have h : ∀ n : UInt8, c = n ↔ c.toNat = n.toNat := fun n => UInt8.toNat_inj.symm
 simp only [h]
 rfl
theorem qmU (c : UInt8) : (⟨(qax c).toArray⟩ : ByteArray) = ⟨#[92]⟩ ++ ⟨#[48 + c / 100, 48 + c / 10 % 10, 48 + c % 10]⟩ := by
 rw [ByteArray.mk_append_mk]; rfl
theorem qiG (c : UInt8) (w : World) :
 Calls Tryz.prog 200 #[.int .u8 (c.toNat : Int)] w fun e w' => e = .returned (.string ⟨(qax c).toArray⟩) ∧ Below w.heap.size w w' := by
 have h1 : (c.toNat : Int) ≤ 255 := by have := c.toNat_lt; omega
 have h0 : 0 ≤ (c.toNat : Int) := by omega
 have hcs := qgL c
 have hc3 : [Value.int .u8 (48 + (c.toNat : Int) / 100), .int .u8 (48 + (c.toNat : Int) / 10 % 10), .int .u8 (48 + (c.toNat : Int) % 10)] = [48 + c / 100, 48 + c / 10 % 10, 48 + c % 10].map bv := by
  have := List.tail_eq_of_cons_eq (by simpa only [qax, List.map_cons] using hcs)
  exact this
 have hback : (convert 99 9 (.slice (some ⟨w.heap.size, 0, none⟩) 3 3)).run Tryz.prog (w.alloc (.cells #[.int .u8 (48 + (c.toNat : Int) / 100), .int .u8 (48 + (c.toNat : Int) / 10 % 10), .int .u8 (48 + (c.toNat : Int) % 10)] 5)) =
  .ok (.string ⟨#[48 + c / 100, 48 + c / 10 % 10, 48 + c % 10]⟩) (w.alloc (.cells #[.int .u8 (48 + (c.toNat : Int) / 100), .int .u8 (48 + (c.toNat : Int) / 10 % 10), .int .u8 (48 + (c.toNat : Int) % 10)] 5)) := by
  refine run_convert_bytes_back _ _ _ _ _ 3 [48 + c / 100, 48 + c / 10 % 10, 48 + c % 10] Tryz.underlying99 Tryz.underlying5 Tryz.underlying9 ?_
  intro j hj
  refine qbc w _ 5 j _ ?_
  rw [hc3, List.getElem?_map, List.getElem?_eq_getElem hj]; rfl
 clear hcs hc3
 go_enter Tryz.func200, Tryz.ntmps200
 go_wp2
 go_ret
 exact ⟨by rw [qmU]; rfl, (qL0).alloc (qN0) _⟩
def qeF (s : ByteArray) (g : Nat) (k : Nat) (W : World) : Prop :=
 ∀ j (hj : j < s.size), W.cell? ⟨g, j, none⟩ = some (bv (if j < k then smallU s[j] else s[j])) ∧ W.frozen? ⟨g, j, none⟩ = false
theorem qbG (s : ByteArray) (w : World) (hs : s.size ≤ 35184372088000) :
 Calls Tryz.prog 105 #[.string s] w fun e w' => e = .returned (.string ⟨(foldL s.data.toList).toArray⟩) ∧ Below w.heap.size w w' := by
 have hconv := Lib.run_convert_string_bytes (P := Tryz.prog) w 9 99 5 s Tryz.underlying9 Tryz.underlying99 Tryz.underlying5
 have hold := Lib.bytesWorld_at_old w 5 s
 have hsz := Lib.bytesWorld_size w 5 s
 have hcell := Lib.bytesWorld_cell w 5 s
 have hnew := Lib.bytesWorld_at_new w 5 s
 have hcs : s.size ≤ (Lib.bytesCells w 5 s).size := by unfold Lib.bytesCells; simp
 have hbel : Below w.heap.size w (Lib.bytesWorld w 5 s) := ⟨rfl, rfl, rfl, by rw [hsz]; omega, fun k hk => hold k hk⟩
 have hrow : qeF s w.heap.size 0 (Lib.bytesWorld w 5 s) := by
  intro j hj
  refine ⟨?_, ?_⟩
  ·rw [hcell j hj, if_neg (by omega)]
   have : s.data.toList.getD j 0 = s[j] := by rw [List.getD_eq_getElem?_getD, Lib.data_getElem? s j hj]; rfl
   rw [this]; rfl
  ·unfold World.frozen?
   rw [hnew]
   simp; omega
 generalize Lib.bytesWorld w 5 s = wc at *
 generalize grownCap w s.size 0 5 = cap at *
 clear hold hsz hcell hnew hcs
 go_enter Tryz.func105, Tryz.ntmps105
 go_wp2
 go_loopw [4] (fun i wr => ∃ k : Nat, i = .int .i64 k ∧ k ≤ s.size ∧ qeF s w.heap.size k wr ∧ Below w.heap.size w wr) (fun i _ => s.size - (intOf i).toNat)
 case atStart => exact ⟨0, rfl, Nat.zero_le _, hrow, hbel⟩
 case round =>
  obtain ⟨k, rfl, hk, hr, hb⟩ := hrel
  by_cases hlt : k < s.size
  ·obtain ⟨hck, hfk⟩ := hr k hlt
   rw [if_neg (by omega)] at hck
   unfold bv at hck
   have hc255 : (s[k].toNat : Int) ≤ 255 := by have := s[k].toNat_lt; omega
   by_cases hup : 65 ≤ (s[k].toNat : Int) ∧ (s[k].toNat : Int) ≤ 90
   ·obtain ⟨hu1, hu2⟩ := hup
    have hv : (s[k].toNat : Int) + 32 = ((smallU s[k]).toNat : Int) := by have := qgI s[k] hu1 hu2; omega
    have hnext : qeF s w.heap.size (k + 1) (wr.setCell ⟨w.heap.size, k, none⟩ (.int .u8 ((s[k].toNat : Int) + 32))) := by
     intro j hj
     by_cases hjk : j = k
     ·subst hjk
      refine ⟨?_, ?_⟩
      ·rw [if_pos (by omega), World.cell?_setCell_same' _ _ _ (by rw [hck]; rfl), hv]; rfl
      ·rw [World.frozen?_setCell]; exact hfk
     ·refine ⟨?_, ?_⟩
      ·have hne : (⟨w.heap.size, k, none⟩ : Addr) ≠ ⟨w.heap.size, j, none⟩ := by intro e; injection e with _ e2 _; omega
       rw [World.cell?_setCell_other (h := hne), (hr j hj).1]
       by_cases h1 : j < k
       ·rw [if_pos h1, if_pos (by omega)]
       ·rw [if_neg h1, if_neg (by omega)]
      ·rw [World.frozen?_setCell]; exact (hr j hj).2
    have hb2 : Below w.heap.size w (wr.setCell ⟨w.heap.size, k, none⟩ (.int .u8 ((s[k].toNat : Int) + 32))) := hb.setCell (p := ⟨w.heap.size, k, none⟩) (qN0) _
    clear hv hr hb hrow hbel
    go_wp2
    go_roundw
    case rel => exact ⟨k + 1, by go_num, by omega, hnext, hb2⟩
    case measure => simp [intOf]; omega
   ·have hnext : qeF s w.heap.size (k + 1) wr := by
     intro j hj
     refine ⟨?_, (hr j hj).2⟩
     rw [(hr j hj).1]
     by_cases h1 : j < k
     ·rw [if_pos h1, if_pos (by omega)]
     ·rw [if_neg h1]
      by_cases h2 : j = k
      ·subst h2
       rw [if_pos (by omega)]
       have : smallU s[j] = s[j] := by unfold smallU; rw [if_neg (by omega)]
       rw [this]
      ·rw [if_neg (by omega)]
    clear hr hrow hbel
    by_cases hu1 : 65 ≤ (s[k].toNat : Int)
    all_goals
     go_wp2
     try (exfalso; omega)
     try (go_roundw
          case rel => exact ⟨k + 1, by go_num, by omega, hnext, hb⟩
          case measure => simp [intOf]; omega)
  ·obtain rfl : k = s.size := by omega
   have hback : (convert 99 9 (.slice (some ⟨w.heap.size, 0, none⟩) s.size cap)).run Tryz.prog wr = .ok (.string ⟨(foldL s.data.toList).toArray⟩) wr := by
    have h := run_convert_bytes_back wr 99 9 5 ⟨w.heap.size, 0, none⟩ cap (foldL s.data.toList) Tryz.underlying99 Tryz.underlying5 Tryz.underlying9 (fun j hj => by
     have hj2 : j < s.size := by simpa [foldL] using hj
     have e : ((⟨w.heap.size, 0, none⟩ : Addr).add j) = ⟨w.heap.size, j, none⟩ := by unfold Addr.add; by_cases hj : j = 0 <;> simp [hj]
     rw [e, (hr j hj2).1, if_pos hj2]
     have : (foldL s.data.toList)[j] = smallU s[j] := by simp [foldL]; rfl
     rw [this]; rfl)
    have hl : (foldL s.data.toList).length = s.size := by simp [foldL]
    rw [hl] at h; exact h
   clear hr hrow hbel
   go_wp2
   go_ret
   exact ⟨rfl, hb⟩
theorem qf9 (x y : UInt8) (a b : List UInt8) : Op.bytesLess (x :: a) (y :: b) = (decide (x < y) || (x == y && Op.bytesLess a b)) := rfl
theorem qdV : ∀ (a b : List UInt8), orderM (foldL a) (foldL b) = qad a b
 | [], [] => rfl
 | [], _ :: _ => rfl
 | _ :: _, [] => rfl
 | x :: a, y :: b => by
  have ih := qdV a b
  unfold orderM at ih ⊢
  simp only [foldL, List.map_cons, qf9] at ih ⊢
  by_cases h : smallU x = smallU y
  ·have h1 : ¬ smallU x < smallU y := by rw [h]; exact UInt8.lt_irrefl _
   simp only [qad, h, if_true]
   rw [← ih]
   simp only [UInt8.lt_irrefl, decide_false, Bool.false_or, beq_self_eq_true, Bool.true_and, List.cons.injEq, true_and]
   congr
  ·simp only [qad, h, if_false, List.cons.injEq, false_and]
   unfold cmpI
   have hn : (smallU x).toNat ≠ (smallU y).toNat := fun e => h (UInt8.toNat_inj.1 e)
   by_cases hlt : smallU x < smallU y
   ·have : ((smallU x).toNat : Int) < (smallU y).toNat := by rw [UInt8.lt_iff_toNat_lt] at hlt; omega
    simp [hlt, this]
   ·have h2 : ¬ ((smallU x).toNat : Int) < (smallU y).toNat := by rw [UInt8.lt_iff_toNat_lt] at hlt; omega
    have h3 : ((smallU y).toNat : Int) < (smallU x).toNat := by omega
    have h4 : (smallU x == smallU y) = false := by simpa using h
    simp [hlt, h2, h3, h4]
theorem qe9 (a b : ByteArray) (w : World) (ha : a.size ≤ 35184372088000) (hb : b.size ≤ 35184372088000) :
 Calls Tryz.prog 185 #[.string a, .string b] w fun e w' => e = .returned (.int .i64 (qad a.data.toList b.data.toList)) ∧ Below w.heap.size w w' := by
 have r : orderM (foldL a.data.toList) (foldL b.data.toList) = qad a.data.toList b.data.toList := qdV _ _
 have R := qH0 r; clear r
 have hA := fun W => qbG a W ha
 have hB := fun W => qbG b W hb
 go_enter Tryz.func185, Tryz.ntmps185
 go_wp2_with fail
 refine (hA _).mono ?_
 rintro e w1 ⟨rfl, b1⟩
 go_wp2_with fail
 refine (hB _).mono ?_
 rintro e w2 ⟨rfl, b2⟩
 go_wp2_with fail
 refine (qew _ _ _).mono ?_
 rintro e w3 ⟨rfl, rfl⟩
 go_wp2_with fail
 go_ret
 exact ⟨qaE R.out, qB0 b1 b2⟩
theorem ba_ext {a b : ByteArray} (h : a.data.toList = b.data.toList) : a = b := by
 obtain ⟨⟨a⟩⟩ := a; obtain ⟨⟨b⟩⟩ := b; simp at h; rw [h]
theorem qbR (a b : List UInt8) : (⟨a.toArray⟩ : ByteArray) ++ ⟨b.toArray⟩ = ⟨(a ++ b).toArray⟩ := by
 rw [ByteArray.mk_append_mk]
theorem qiU (s : ByteArray) (k : Nat) (h : k < s.size) : s.extract k (k + 1) = ⟨#[s[k]]⟩ := by
 apply ba_ext
 have h1 : (s.extract k (k + 1)).data.toList = (s.data.toList.take (k + 1)).drop k := by simp [ByteArray.data_extract, List.drop_take]
 rw [h1, qbl s k h, List.drop_left' (by simp; omega)]
theorem qho (s : ByteArray) (w : World) (hs : s.size ≤ 35184372088000) :
 Calls Tryz.prog 175 #[.string s] w fun e w' => e = .returned (.string ⟨(textL s.data.toList).toArray⟩) ∧ Below w.heap.size w w' := by
 go_enter Tryz.func175, Tryz.ntmps175
 go_wp2
 go_loopw [3, 4] (fun v i wr => ∃ k : Nat, i = .int .i64 k ∧ k ≤ s.size ∧ v = .string ⟨(textL (s.data.toList.take k)).toArray⟩ ∧ Below w.heap.size w wr) (fun _ i _ => s.size - (intOf i).toNat)
 case atStart => exact ⟨0, rfl, Nat.zero_le _, rfl, qL0⟩
 case round =>
  obtain ⟨k, rfl, hk, rfl, hb⟩ := hrel
  by_cases hlt : k < s.size
  ·have hsn := qbl s k hlt
   have hx1 := qiU s k hlt
   have hle := qcd (s.data.toList.take k)
   have hlen : (s.data.toList.take k).length ≤ k := List.length_take_le _ _
   have HS : Hid (textL (s.data.toList.take (k + 1)) = textL (s.data.toList.take k) ++ octetW s[k]) := qH0 (by rw [hsn, qfU])
   clear hsn
   have hz : (ByteArray.mk (textL (s.data.toList.take k)).toArray).size ≤ 4 * k := by show (textL (s.data.toList.take k)).toArray.size ≤ _; simp; omega
   have hSp := qiv s[k] ⟨#[46, 92, 34, 40, 41, 59, 64, 36]⟩
   rw [qj9] at hSp
   have hEs := qiG s[k]
   have hbs := hb.size
   clear hle hlen
   generalize hT : textL (s.data.toList.take k) = T at *
   clear hT
   have hc255 : (s[k].toNat : Int) ≤ 255 := by have := s[k].toNat_lt; omega
   by_cases hsp : qaC s[k] = true
   ·have hw := qbg hsp
    have HW := qH0 hw; clear hw
    have a1 := run_string_add_sum (P := Tryz.prog) wr ⟨T.toArray⟩ ⟨#[92]⟩ (by show _ + 1 ≤ _; omega)
    have e1 : (⟨T.toArray⟩ : ByteArray) ++ ⟨#[92]⟩ = ⟨(T ++ [92]).toArray⟩ := qbR T [92]
    have a2 := run_string_add_sum (P := Tryz.prog) wr ⟨(T ++ [92]).toArray⟩ ⟨#[s[k]]⟩ (by rw [← e1, ByteArray.size_append]; show _ + 1 + 1 ≤ _; omega)
    have e2 : (⟨(T ++ [92]).toArray⟩ : ByteArray) ++ ⟨#[s[k]]⟩ = ⟨(T ++ [92] ++ [s[k]]).toArray⟩ := qbR (T ++ [92]) [s[k]]
    rw [e1] at a1
    rw [e2] at a2
    clear e1 e2 hz
    go_wp2_with (first | (go_at_call 199; refine (hSp _ (by decide)).mono ?_; rintro e w' ⟨rfl, rfl⟩) | (go_at_call 200; refine (hEs _).mono ?_; rintro e w2 ⟨rfl, hb2⟩))
    go_roundw
    case rel => exact ⟨k + 1, by go_num, by omega, by rw [HS.out, HW.out], hb⟩
    case measure => simp [intOf]; omega
   have hsp0 : qaC s[k] = false := by simpa using hsp
   clear hsp
   by_cases hpl : 33 ≤ (s[k].toNat : Int) ∧ (s[k].toNat : Int) ≤ 126
   ·have hw := qbw hsp0 hpl.1 hpl.2
    have HW := qH0 hw; clear hw
    obtain ⟨hp1, hp2⟩ := hpl
    have a1 := run_string_add_sum (P := Tryz.prog) wr ⟨T.toArray⟩ ⟨#[s[k]]⟩ (by show _ + 1 ≤ _; omega)
    have e1 : (⟨T.toArray⟩ : ByteArray) ++ ⟨#[s[k]]⟩ = ⟨(T ++ [s[k]]).toArray⟩ := qbR T [s[k]]
    rw [e1] at a1
    clear e1 hz
    go_wp2_with (first | (go_at_call 199; refine (hSp _ (by decide)).mono ?_; rintro e w' ⟨rfl, rfl⟩) | (go_at_call 200; refine (hEs _).mono ?_; rintro e w2 ⟨rfl, hb2⟩))
    go_roundw
    case rel => exact ⟨k + 1, by go_num, by omega, by rw [HS.out, HW.out], hb⟩
    case measure => simp [intOf]; omega
   ·have hw := qbW hsp0 (by omega)
    have HW := qH0 hw; clear hw
    have a1 := fun W => run_string_add_sum (P := Tryz.prog) W ⟨T.toArray⟩ ⟨(qax s[k]).toArray⟩ (by show _ + (qax s[k]).toArray.size ≤ _; simp [qax]; omega)
    have e1 : (⟨T.toArray⟩ : ByteArray) ++ ⟨(qax s[k]).toArray⟩ = ⟨(T ++ qax s[k]).toArray⟩ := qbR T (qax s[k])
    rw [e1] at a1
    clear e1 hz
    by_cases hp1 : 33 ≤ (s[k].toNat : Int)
    all_goals
     go_wp2_with (first | (go_at_call 199; refine (hSp _ (by decide)).mono ?_; rintro e w' ⟨rfl, rfl⟩) | (go_at_call 200; refine (hEs _).mono ?_; rintro e w2 ⟨rfl, hb2⟩))
     try (exfalso; omega)
     try (go_roundw
          case rel => exact ⟨k + 1, by go_num, by omega, by rw [HS.out, HW.out], hb.trans (hb2.mono hbs)⟩
          case measure => simp [intOf]; omega)
  ·obtain rfl : k = s.size := by omega
   have ht : s.data.toList.take s.size = s.data.toList := List.take_of_length_le (by simp)
   rw [ht]
   go_wp2
   go_ret
   exact ⟨rfl, hb⟩
theorem qi0 (c : UInt8) : smallU (smallU c) = smallU c := by
 unfold smallU
 by_cases h : 65 ≤ c.toNat ∧ c.toNat ≤ 90
 ·rw [if_pos h, if_neg]
  rw [UInt8.toNat_add]; simp; omega
 ·rw [if_neg h, if_neg h]
theorem qaD (a b : Int) : (cmpI a b = -1 ∧ a < b) ∨ (cmpI a b = 0 ∧ a = b) ∨ (cmpI a b = 1 ∧ b < a) := by
 unfold cmpI
 by_cases h : a < b
 ·left; rw [if_pos h]; exact ⟨rfl, h⟩
 ·by_cases h2 : b < a
  ·right; right; rw [if_neg h, if_pos h2]; exact ⟨rfl, h2⟩
  ·right; left; rw [if_neg h, if_neg h2]; exact ⟨rfl, by omega⟩
theorem qbz : ∀ a b : List UInt8, qad a b = -1 ∨ qad a b = 0 ∨ qad a b = 1
 | [], [] => by simp [qad]
 | [], _ :: _ => by simp [qad]
 | _ :: _, [] => by simp [qad]
 | x :: a, y :: b => by
  by_cases h : smallU x = smallU y
  ·simp only [qad, h, if_true]; exact qbz a b
  ·simp only [qad, h, if_false]; have := qaD (smallU x).toNat (smallU y).toNat; omega
theorem qa8 : ∀ a b : List UInt8, qad b a = - qad a b
 | [], [] => by simp [qad]
 | [], _ :: _ => by simp [qad]
 | _ :: _, [] => by simp [qad]
 | x :: a, y :: b => by
  by_cases h : smallU x = smallU y
  ·simp only [qad, h, if_true]; exact qa8 a b
  ·simp only [qad, h, if_false, Ne.symm h]
   have h1 := qaD (smallU x).toNat (smallU y).toNat
   have h2 := qaD (smallU y).toNat (smallU x).toNat
   omega
theorem qbm : ∀ a b : List UInt8, qad a b = 0 ↔ foldL a = foldL b
 | [], [] => by simp [qad, foldL]
 | [], _ :: _ => by simp [qad, foldL]
 | _ :: _, [] => by simp [qad, foldL]
 | x :: a, y :: b => by
  have ih := qbm a b
  by_cases h : smallU x = smallU y
  ·simp only [qad, h, if_true, ih, foldL, List.map_cons, List.cons.injEq, true_and]
  ·have hn : (smallU x).toNat ≠ (smallU y).toNat := fun e => h (UInt8.toNat_inj.1 e)
   have h1 := qaD (smallU x).toNat (smallU y).toNat
   simp only [qad, h, if_false, foldL, List.map_cons, List.cons.injEq, false_and, iff_false]
   omega
theorem qcb : ∀ a b : List UInt8, qad (foldL a) b = qad a b
 | [], [] => rfl
 | [], _ :: _ => rfl
 | _ :: _, [] => rfl
 | x :: a, y :: b => by
  have ih := qcb a b
  simp only [foldL, List.map_cons, qad, qi0] at ih ⊢
  rw [ih]
theorem qdj : ∀ a b c : List UInt8, qad a b ≤ 0 → qad b c ≤ 0 → qad a c ≤ 0
 | [], _, [] => by simp [qad]
 | [], _, _ :: _ => by simp [qad]
 | _ :: _, [], _ => by simp [qad]
 | _ :: _, _ :: _, [] => by intro _ h; simp [qad] at h
 | x :: a, y :: b, z :: c => by
  intro h1 h2
  have c1 := qaD (smallU x).toNat (smallU y).toNat
  have c2 := qaD (smallU y).toNat (smallU z).toNat
  have c3 := qaD (smallU x).toNat (smallU z).toNat
  simp only [qad] at h1 h2 ⊢
  by_cases e1 : smallU x = smallU y
  ·rw [if_pos e1] at h1
   by_cases e2 : smallU y = smallU z
   ·rw [if_pos e2] at h2
    rw [if_pos (e1.trans e2)]
    exact qdj a b c h1 h2
   ·rw [if_neg e2] at h2
    rw [if_neg (by rw [e1]; exact e2), e1]; exact h2
  ·rw [if_neg e1] at h1
   have n1 : (smallU x).toNat ≠ (smallU y).toNat := fun e => e1 (UInt8.toNat_inj.1 e)
   by_cases e2 : smallU y = smallU z
   ·rw [if_neg (by rw [← e2]; exact e1), ← e2]; exact h1
   ·rw [if_neg e2] at h2
    have n2 : (smallU y).toNat ≠ (smallU z).toNat := fun e => e2 (UInt8.toNat_inj.1 e)
    by_cases e3 : smallU x = smallU z
    ·rw [e3] at n1 c1 h1; omega
    ·rw [if_neg e3]; omega
theorem qlK (a b : List UInt8) : sameM a b = decide (qad a b = 0) := by
 unfold sameM; congr 1; apply propext
 constructor
 ·exact fun h => h.2
 ·intro h
  have := congrArg List.length ((qbm a b).1 h)
  simp only [foldL, List.length_map] at this
  exact ⟨this, h⟩
theorem qds (c : UInt8) (b : List UInt8) : textL (c :: b) = octetW c ++ textL b := by simp [textL]
theorem qkA (c : UInt8) : octetW c ≠ [] := by
 unfold octetW; split
 ·simp
 ·split <;> simp
theorem qhE (c : UInt8) (r : List UInt8) : readM (octetW c ++ r) = (c, (octetW c).length, 0) := by
 have hc := c.toNat_lt
 by_cases hsp : qaC c = true
 ·have s1 : c.toNat = 46 ∨ c.toNat = 92 ∨ c.toNat = 34 ∨ c.toNat = 40 ∨ c.toNat = 41 ∨ c.toNat = 59 ∨ c.toNat = 64 ∨ c.toNat = 36 := of_decide_eq_true hsp
  have hd : digitU c = false := decide_eq_false (by omega)
  rw [qbg hsp]
  simp [readM, hd]
 ·have hsp0 : qaC c = false := by simpa using hsp
  have s1 : ¬ (c.toNat = 46 ∨ c.toNat = 92 ∨ c.toNat = 34 ∨ c.toNat = 40 ∨ c.toNat = 41 ∨ c.toNat = 59 ∨ c.toNat = 64 ∨ c.toNat = 36) := of_decide_eq_false hsp0
  by_cases hpl : 33 ≤ (c.toNat : Int) ∧ (c.toNat : Int) ≤ 126
  ·rw [qbw hsp0 hpl.1 hpl.2]
   have e1 : c ≠ 46 := by intro e; subst e; simp at s1
   have e2 : c ≠ 92 := by intro e; subst e; simp at s1
   simp [readM, e1, e2]
  ·rw [qbW hsp0 (by omega)]
   have e1 : (48 + c / 100 : UInt8).toNat = 48 + c.toNat / 100 := by rw [UInt8.toNat_add, UInt8.toNat_div]; simp only [UInt8.reduceToNat]; omega
   have e2 : (48 + c / 10 % 10 : UInt8).toNat = 48 + c.toNat / 10 % 10 := by rw [UInt8.toNat_add, UInt8.toNat_mod, UInt8.toNat_div]; simp only [UInt8.reduceToNat]; omega
   have e3 : (48 + c % 10 : UInt8).toNat = 48 + c.toNat % 10 := by rw [UInt8.toNat_add, UInt8.toNat_mod]; simp only [UInt8.reduceToNat]; omega
   have d1 : digitU (48 + c / 100) = true := decide_eq_true (by omega)
   have d2 : digitU (48 + c / 10 % 10) = true := decide_eq_true (by omega)
   have d3 : digitU (48 + c % 10) = true := decide_eq_true (by omega)
   have hn : (48 + c.toNat / 100 - 48) * 100 + (48 + c.toNat / 10 % 10 - 48) * 10 + (48 + c.toNat % 10 - 48) = c.toNat := by omega
   simp only [qax, List.cons_append, List.nil_append, readM, d1, d2, d3, e1, e2, e3, hn]
   rw [if_neg (by decide), if_neg (by decide), if_neg (by decide), if_pos ⟨trivial, trivial⟩, if_neg (by omega)]
   simp
theorem qgT : ∀ l : List UInt8, scan (textL l) = (l, 0)
 | [] => rfl
 | c :: l => by
  have ih := qgT l
  have hr := qhE c (textL l)
  rw [qds, qmZ (by simp [qkA]) (by rw [hr]), hr]
  simp only [List.drop_left', ih, join, if_true]
  rfl
theorem qjP (l : List UInt8) : parseM (textL l) = (if qam l = 0 then (l, 0) else ([], qam l)) := by
 unfold parseM; rw [qgT]; simp
theorem str_of (l : List UInt8) : ∃ s : ByteArray, s.data.toList = l ∧ s.size = l.length ∧ strV l = .string s := ⟨⟨l.toArray⟩, by simp, by show l.toArray.size = _; simp, rfl⟩
theorem qeD (l : List UInt8) : (⟨l.toArray⟩ : ByteArray).size = l.length := by show l.toArray.size = _; simp
abbrev Nm := List (List UInt8)
def lenN (n : Nm) : Nat := 1 + (n.map fun x => 1 + x.length).sum
def checkL : Nm → Int
 | [] => 0
 | x :: r => if qam x = 0 then checkL r else qam x
def checkN (n : Nm) : Int := if checkL n = 0 then (if 255 < lenN n then 3 else 0) else checkL n
def textN (n : Nm) : List UInt8 := if n = [] then [46] else n.flatMap fun x => textL x ++ [46]
def foldN (n : Nm) : Nm := n.map foldL
def sameN (a b : Nm) : Bool := decide (foldN a = foldN b)
def underN (n z : Nm) : Bool := decide (z.length ≤ n.length) && sameN (n.drop (n.length - z.length)) z
def cmpR : Nm → Nm → Int
 | [], [] => 0
 | [], _ :: _ => -1
 | _ :: _, [] => 1
 | x :: r, y :: t => if qad x y = 0 then cmpR r t else qad x y
def qai (a b : Nm) : Int := cmpR a.reverse b.reverse
def swapN (n f t : Nm) : Nm × Int :=
 if underN n f then (if checkN (n.take (n.length - f.length) ++ t) = 0 then (n.take (n.length - f.length) ++ t, 0) else ([], 7)) else ([], 12)
theorem qli (x : List UInt8) (n : Nm) : lenN (x :: n) = lenN n + 1 + x.length := by simp [lenN]; omega
theorem qen (n : Nm) (x : List UInt8) : lenN (n ++ [x]) = lenN n + 1 + x.length := by simp [lenN]; omega
theorem qdR (a b : Nm) : checkL (a ++ b) = if checkL a = 0 then checkL b else checkL a := by
 induction a with
 | nil => simp [checkL]
 | cons x a ih =>
  simp only [List.cons_append, checkL]
  split
  ·exact ih
  ·rfl
theorem qeT (a : Nm) (x : List UInt8) : checkL (a ++ [x]) = if checkL a = 0 then qam x else checkL a := by
 rw [qdR]; simp only [checkL]
 split
 ·split
  ·rename_i h; exact h.symm
  ·rfl
 ·rfl
theorem qit {a p : Nm} (h : p <+: a) (hp : checkL p ≠ 0) : checkL a = checkL p := by
 obtain ⟨t, rfl⟩ := h; rw [qdR, if_neg hp]
theorem qdr {a p : Nm} (h : p <+: a) (hp : checkL p ≠ 0) : checkN a = checkL p := by
 unfold checkN; rw [qit h hp, if_neg hp]
theorem qgW (n : Nm) : (foldN n).length = n.length := by simp [foldN]
theorem qaw (a b : Nm) : sameN a b = true ↔ foldN a = foldN b := by simp [sameN]
theorem qgQ (a b : List UInt8) : sameM a b = true ↔ foldL a = foldL b := by
 rw [qlK, decide_eq_true_iff]; exact qbm a b
theorem qgO {a b : Nm} (h : a.length ≠ b.length) : sameN a b = false := by
 unfold sameN; apply decide_eq_false; intro e; have := congrArg List.length e; simp [foldN] at this; exact h this
theorem qef {a b : Nm} (h : a.length = b.length) (hs : ∀ j (h1 : j < a.length) (h2 : j < b.length), sameM a[j] b[j] = true) : sameN a b = true := by
 rw [qaw]
 apply List.ext_getElem (by simp [foldN, h])
 intro j h1 h2
 simp only [foldN, List.getElem_map]
 exact (qgQ _ _).1 (hs j (by simpa [foldN] using h1) (by simpa [foldN] using h2))
theorem qdW {a b : Nm} (j : Nat) (h1 : j < a.length) (h2 : j < b.length) (hs : sameM a[j] b[j] = false) : sameN a b = false := by
 cases h : sameN a b with
 | false => rfl
 | true =>
  rw [qaw] at h
  have : foldL a[j] = foldL b[j] := by
   have h3 : (foldN a)[j]'(by simp [foldN, h1]) = (foldN b)[j]'(by simp [foldN, h2]) := by simp only [h]
   simpa [foldN] using h3
  rw [(qgQ _ _).2 this] at hs; cases hs
theorem qdN (a : Nm) : sameN a a = true := (qaw _ _).2 rfl
theorem qdM (a b : Nm) : sameN a b = sameN b a := by unfold sameN; exact decide_eq_decide.2 ⟨Eq.symm, Eq.symm⟩
theorem qda {a b c : Nm} (h1 : sameN a b = true) (h2 : sameN b c = true) : sameN a c = true := (qaw _ _).2 (((qaw _ _).1 h1).trans ((qaw _ _).1 h2))
theorem qfo : ∀ a b : Nm, cmpR a b = -1 ∨ cmpR a b = 0 ∨ cmpR a b = 1
 | [], [] => .inr (.inl rfl)
 | [], _ :: _ => .inl rfl
 | _ :: _, [] => .inr (.inr rfl)
 | x :: r, y :: t => by
  simp only [cmpR]; split
  ·exact qfo r t
  ·exact qbz x y
theorem qgu : ∀ a b : Nm, cmpR b a = - cmpR a b
 | [], [] => rfl
 | [], _ :: _ => rfl
 | _ :: _, [] => rfl
 | x :: r, y :: t => by
  simp only [cmpR]
  have h := qa8 x y
  by_cases e : qad x y = 0
  ·rw [if_pos e, if_pos (by omega)]; exact qgu r t
  ·rw [if_neg e, if_neg (by omega)]; exact h
theorem qgS : ∀ a b : Nm, cmpR a b = 0 ↔ foldN a = foldN b
 | [], [] => by simp [cmpR, foldN]
 | [], _ :: _ => by simp [cmpR, foldN]
 | _ :: _, [] => by simp [cmpR, foldN]
 | x :: r, y :: t => by
  have ih := qgS r t
  have h := qbm x y
  simp only [cmpR, foldN, List.map_cons, List.cons.injEq] at ih ⊢
  by_cases e : qad x y = 0
  ·rw [if_pos e, ih]; exact ⟨fun q => ⟨h.1 e, q⟩, fun q => q.2⟩
  ·rw [if_neg e]; exact ⟨fun q => absurd q e, fun q => absurd (h.2 q.1) e⟩
theorem qbt {x y z : List UInt8} (h : qad x y = 0) : qad y z = qad x z := by
 have e := (qbm x y).1 h
 rw [← qcb x z, ← qcb y z, e]
theorem qfN : ∀ a b c : Nm, cmpR a b ≤ 0 → cmpR b c ≤ 0 → cmpR a c ≤ 0
 | [], _, [] => by intro _ _; simp [cmpR]
 | [], _, _ :: _ => by intro _ _; simp [cmpR]
 | _ :: _, [], _ => by intro h _; simp [cmpR] at h
 | _ :: _, _ :: _, [] => by intro _ h; simp [cmpR] at h
 | x :: r, y :: t, z :: u => by
  have ih := qfN r t u
  simp only [cmpR]
  intro h1 h2
  by_cases e1 : qad x y = 0
  ·rw [if_pos e1] at h1
   rw [← qbt (z := z) e1]
   by_cases e2 : qad y z = 0
   ·rw [if_pos e2] at h2 ⊢; exact ih h1 h2
   ·rw [if_neg e2] at h2 ⊢; exact h2
  ·rw [if_neg e1] at h1
   by_cases e2 : qad y z = 0
   ·have e3 : qad x z = qad x y := by
     have s1 := qa8 x z; have s2 := qa8 x y
     have := qbt (x := y) (y := z) (z := x) e2
     omega
    rw [e3, if_neg e1]; exact h1
   ·rw [if_neg e2] at h2
    have h3 := qdj x y z h1 h2
    by_cases e3 : qad x z = 0
    ·exfalso
     have s1 := qa8 x y
     have := qbt (x := x) (y := z) (z := y) e3
     have s2 := qa8 y z
     have r1 := qbz x y; have r2 := qbz y z
     omega
    ·rw [if_neg e3]; exact h3
theorem qdQ (a : Nm) : foldN a.reverse = (foldN a).reverse := by simp [foldN]
theorem qcB (a b : Nm) : qai a b = 0 ↔ sameN a b = true := by
 unfold qai; rw [qgS, qdQ, qdQ, qaw]
 exact ⟨fun h => List.reverse_inj.1 h, fun h => by rw [h]⟩
theorem qg5 (a b : Nm) : qai b a = - qai a b := qgu _ _
theorem qdk (a b : Nm) : qai a b = -1 ∨ qai a b = 0 ∨ qai a b = 1 := qfo _ _
theorem qfZ (a b c : Nm) (h1 : qai a b ≤ 0) (h2 : qai b c ≤ 0) : qai a c ≤ 0 := qfN _ _ _ h1 h2
theorem qbi (n z : Nm) : underN n z = true ↔ ∃ p, foldN n = p ++ foldN z := by
 unfold underN
 simp only [Bool.and_eq_true, decide_eq_true_eq, qaw]
 constructor
 ·rintro ⟨h, e⟩
  refine ⟨(foldN n).take (n.length - z.length), ?_⟩
  rw [← e]; simp [foldN, List.map_drop]
 ·rintro ⟨p, e⟩
  have hl : n.length = p.length + z.length := by have := congrArg List.length e; simpa [foldN] using this
  refine ⟨by omega, ?_⟩
  have : foldN (n.drop (n.length - z.length)) = (foldN n).drop (n.length - z.length) := by simp [foldN, List.map_drop]
  rw [this, e, show n.length - z.length = p.length by omega, List.drop_left]
theorem qcW {a b c : Nm} (h1 : underN a b = true) (h2 : underN b c = true) : underN a c = true := by
 rw [qbi] at *
 obtain ⟨p, e1⟩ := h1; obtain ⟨q, e2⟩ := h2
 exact ⟨p ++ q, by rw [e1, e2, List.append_assoc]⟩
theorem qa1 {a b : Nm} (h : underN a b = true) : b.length ≤ a.length := by
 obtain ⟨p, e⟩ := (qbi _ _).1 h
 have := congrArg List.length e; simp [foldN] at this; omega
end Go.Proofs.YtckammgnmgkieaaGreat
namespace Go.Proofs.YtckammgnmgkieaaGreat
set_option maxRecDepth 20000
open Go.RowKit Go.Shelf
section
variable {F : Fence} {d : Nat} {P : Program} {ops : Array Oper} {md : Region.Mode} {C : World → Prop}
def qcU (F : Fence) (d : Nat) (P : Program) (md : Region.Mode) (ops : Array Oper) (C : World → Prop) (n : Nat) (L : Array Bool → Act → Prop) : Nat → Array Bool → Act → Prop
 | 0, listed, a => L listed a
 | f + 1, listed, a =>
  Region.ready md ops listed ≠ [] ∧ ∀ i ∈ Region.ready md ops listed, i < n ∧ qOpIn F d P ops C i (qcU F d P md ops C n L f (listed.setIfInBounds i true)) a
theorem qc6 {n g : Nat} {L : Array Bool → Act → Prop} {Q' : Exit → Act → World → Prop} (hro : F.round = none) (hL : ∀ listed a w, C w → L listed a → wpAnyIn F d P md ops Q' g listed a w) :
 ∀ (f : Nat) (listed : Array Bool) (a : Act) (w : World), C w → qcU F d P md ops C n L f listed a → wpAnyIn F d P md ops Q' (f + g) listed a w
 | 0, listed, a, w, hw, h => by rw [Nat.zero_add]; exact hL _ _ _ hw h
 | f + 1, listed, a, w, hw, h => by
  rw [show f + 1 + g = (f + g) + 1 by omega]
  exact ⟨fun h0 => absurd h0 h.1, fun i hi => wpOpIn_of_qOpIn hro hw (fun a' w' hw' h' => qc6 hro hL f _ a' w' hw' h') (h.2 i hi).2⟩
theorem qgi {n i : Nat} {oi : Oper} {v : Value} {L : Array Bool → Act → Prop} (hi : ops[i]? = some oi) (hsel : ∀ (j : Nat) (o : Oper) cs b, ops[j]? = some o → o.op ≠ .select cs b)
 (hs : Region.sinkB md ops n = true) (hc : Region.chainB md ops n = true) (hn : n < ops.size) (hin : i < n)
 (hdone : ∀ listed a, L listed a → ∀ j ∈ Region.ready md ops listed, n ≤ j) :
 ∀ (f : Nat) (listed : Array Bool) (a : Act), HeadInv md ops n listed →
  (∀ j oj, ops[j]? = some oj → j ≠ i → listed.getD j true = false → (∀ e ∈ oj.after, Region.binds md e = true → e.on ≠ i) → oi.apart ops oj = true) →
  i ∈ Region.ready md ops listed → YieldsQuiet F d P ops C oi v a →
  qcU F d P md ops C n L f (listed.setIfInBounds i true) (a.put oi.dst v) → qcU F d P md ops C n L (f + 1) listed a := by
 intro f
 induction f with
 | zero =>
  intro listed a inv _ hr hy H
  have hun := (mem_ready.1 hr).1
  refine ⟨fun h => (by rw [h] at hr; cases hr), fun j hj => ?_⟩
  have hjn : j < n := by
   rcases Nat.lt_or_ge j n with h | h
   ·exact h
   ·exact absurd hj (tail_waits hs hc hn inv _ i rfl hin hun j h)
  refine ⟨hjn, ?_⟩
  by_cases hji : j = i
  ·subst hji; exact hy.qOpIn hi H
  ·have := hdone _ _ H j (ready_mono hj hji)
   omega
 | succ f ih =>
  intro listed a inv hfree hr hy H
  have hun := (mem_ready.1 hr).1
  refine ⟨fun h => (by rw [h] at hr; cases hr), fun j hj => ?_⟩
  have hjn : j < n := by
   rcases Nat.lt_or_ge j n with h | h
   ·exact h
   ·exact absurd hj (tail_waits hs hc hn inv _ i rfl hin hun j h)
  refine ⟨hjn, ?_⟩
  by_cases hji : j = i
  ·subst hji; exact hy.qOpIn hi H
  ·have h1 := (H.2 j (ready_mono hj hji)).2
   obtain ⟨hjun, oj, hoj, hall⟩ := mem_ready.1 hj
   have hnot : ∀ e ∈ oj.after, Region.binds md e = true → e.on ≠ i := fun e he hb heq => by
    have h1 := hall e he hb
    rw [heq, getD_both hun] at h1
    cases h1
   have h2 := qOpIn_put hoj (hfree j oj hoj hji hjun hnot) (fun cs b => hsel i oi cs b hi) (fun cs b => hsel j oj cs b hoj) hy h1
   have hfree' : ∀ k ok, ops[k]? = some ok → k ≠ i → (listed.setIfInBounds j true).getD k true = false →
    (∀ e ∈ ok.after, Region.binds md e = true → e.on ≠ i) → oi.apart ops ok = true := fun k ok hk hki hun hno => by
    refine hfree k ok hk hki ?_ hno
    by_cases hjk : j = k
    ·subst hjk; exact hjun
    ·rw [getD_set_ne true hjk] at hun; exact hun
   refine qOpIn_mono (fun a' h3 => ih (listed.setIfInBounds j true) a' (inv.set hj hjn) hfree' (ready_mono hr (Ne.symm hji)) h3.1 ?_) h2
   rw [Array.setIfInBounds_comm _ _ hji]
   exact h3.2
theorem qdi {Q' : Exit → Act → World → Prop} : ∀ (l : List Oper) (k : Nat) (listed : Array Bool) (a : Act) (w : World), (∀ j, l[j]? = ops[k + j]?) →
 Region.seqB md ops l.length k listed = true → wpListIn F d P ops Q' l a w → wpAnyIn F d P md ops Q' l.length listed a w
 | [], _, _, _, _, _, hB, h => ⟨by simpa [Region.seqB] using hB, h⟩
 | o :: l, k, listed, a, w, hl, hB, h => by
  have h0 : ops[k]? = some o := by simpa using (hl 0).symm
  simp only [List.length_cons, Region.seqB, Bool.and_eq_true, decide_eq_true_eq] at hB
  refine ⟨fun h1 => (by rw [hB.1] at h1; cases h1), fun i hi => ?_⟩
  rw [hB.1] at hi
  have hik : i = k := by simpa using hi
  subst hik
  have hw : wpOpIn F d P ops Q' i (wpListIn F d P ops Q' l) a w := by unfold wpOpIn; simp only [h0]; exact h
  exact wpOpIn_mono (fun a' w' h' => qdi l (i + 1) _ a' w' (fun j => by have := hl (j + 1); simpa [Nat.add_assoc, Nat.add_comm 1 j] using this) hB.2 h') hw
theorem qer {n g : Nat} {Lq : Act → Prop} (hsel : Region.noSelect ops = true) (hs : Region.sinkB md ops n = true) (hc : Region.chainB md ops n = true) (hn : n < ops.size) :
 ∀ (l : List Oper) (k : Nat) (listed : Array Bool) (a : Act), (∀ j, j < l.length → l[j]? = ops[k + j]?) → k + l.length = n → HeadInv md ops n listed →
 Region.lexHead md ops g l.length k listed = true → wpQuietIn F d P ops C Lq l a →
 qcU F d P md ops C n (fun listed' a' => Region.seqB md ops g n listed' = true ∧ Lq a') l.length listed a
 | [], k, listed, a, _, hk, _, hB, h => by
  have : k = n := by simpa using hk
  subst this
  exact ⟨by simpa [Region.lexHead] using hB, h⟩
 | o :: l, k, listed, a, hl, hk, inv, hB, h => by
  have h0 : ops[k]? = some o := by simpa using (hl 0 (by simp)).symm
  simp only [List.length_cons, Region.lexHead, Bool.and_eq_true] at hB
  obtain ⟨⟨hr, hf⟩, hB'⟩ := hB
  have hkn : k < n := by simp only [List.length_cons] at hk; omega
  have hr' : k ∈ Region.ready md ops listed := by simpa using hr
  have hst : qOpIn F d P ops C k (wpQuietIn F d P ops C Lq l) a := by unfold qOpIn; simp only [h0]; exact h
  obtain ⟨v, hy, hK⟩ := yieldsQuiet_of_qOpIn h0 hst
  exact qgi h0 (Region.noSelect_spec hsel) hs hc hn hkn (fun listed' a' hL => seqB_ready hL.1) l.length listed a inv (Region.free_spec h0 hf) hr' hy
   (qer hsel hs hc hn l (k + 1) _ _ (fun j hj => by have := hl (j + 1) (by simp; omega); simpa [Nat.add_assoc, Nat.add_comm 1 j] using this) (by simp only [List.length_cons] at hk; omega) (inv.set hr' hkn) hB' hK)
theorem qbk {id : Nat} {Q : Exit → Act → World → Prop} {a : Act} {w : World} {l : List Oper} (n : Nat) (hro : F.round = none) (hm : P.follows .mixedOrders = true) (hB : Region.lexTailB .any l.toArray n = true)
 (h : wpQuietIn F d P l.toArray (fun w' => ∃ n, w' = w.drewN n) (fun a' => ∀ w', (∃ n, w' = w.drewN n) → wpListIn F d P l.toArray Q (l.drop n) a' w') (l.take n) a) : (Code.region id l.toArray true).wpIn F d P Q a w := by
 simp only [Region.lexTailB, Bool.and_eq_true, decide_eq_true_eq] at hB
 obtain ⟨⟨⟨⟨hsel, hn⟩, hs⟩, hc⟩, hlex⟩ := hB
 have hn' : n < l.length := by simpa using hn
 have htl : (l.take n).length = n := by simp; omega
 have hdl : (l.drop n).length = l.toArray.size - n := by simp
 have inv0 : HeadInv .any l.toArray n (Array.replicate l.toArray.size false) :=
  ⟨by simp, fun j oj _ hl => (by rw [getD_replicate_false] at hl; cases hl), fun t _ ht => getD_in (by simpa using ht) (getD_replicate_false _ _)⟩
 have H := qer (md := .any) (g := l.toArray.size - n) hsel hs hc hn (l.take n) 0 _ a (fun j hj => by
  have hj' : j < n := by rw [htl] at hj; exact hj
  simp [hj']) (by simpa using htl) inv0 (by rw [htl]; exact hlex) h
 refine wpIn_region_any hm ?_
 have := qc6 (Q' := Q) (g := l.toArray.size - n) hro (fun listed a' w' hw' hL => by
  have := qdi (md := .any) (Q' := Q) (l.drop n) n listed a' w' (fun j => by simp [List.getElem?_drop]) (by rw [hdl]; exact hL.1) (hL.2 w' hw')
  rwa [hdl] at this) _ _ _ ({ w with drawn := w.drawn + 1 }) ⟨1, rfl⟩ H
 rw [htl, show n + (l.toArray.size - n) = l.toArray.size by omega] at this
 exact this
end
end Go.Proofs.YtckammgnmgkieaaGreat
namespace Go.Proofs.YtckammgnmgkieaaGreat.Stb
open Go.Sort
set_option linter.unusedSectionVars false
variable {α : Type} [Inhabited α]
structure COrd (cf : α → α → Int) : Prop where
 anti : ∀ x y, cf y x = - cf x y
 trans : ∀ x y z, cf x y ≤ 0 → cf y z ≤ 0 → cf x z ≤ 0
def Lx (cf : α → α → Int) (tg : α → Nat) (x y : α) : Prop := cf x y < 0 ∨ (cf x y = 0 ∧ tg x < tg y)
section
variable {cf : α → α → Int} {tg : α → Nat}
omit [Inhabited α] in
theorem Lx.trans (h : COrd cf) {x y z : α} (h1 : Lx cf tg x y) (h2 : Lx cf tg y z) : Lx cf tg x z := by
 have a1 := h.anti x y; have a2 := h.anti y z; have a3 := h.anti x z
 have t1 := h.trans x y z; have t2 := h.trans z x y; have t3 := h.trans y z x
 unfold Lx at *
 rcases h1 with h1 | ⟨h1, g1⟩ <;> rcases h2 with h2 | ⟨h2, g2⟩ <;> omega
omit [Inhabited α] in
theorem Lx.irrefl (h : COrd cf) (x : α) : ¬ Lx cf tg x x := by
 have := h.anti x x
 unfold Lx; omega
omit [Inhabited α] in
theorem Lx.of_not (h : COrd cf) {x y : α} (ht : tg x < tg y) (hn : ¬ cf y x < 0) : Lx cf tg x y := by
 have := h.anti x y
 unfold Lx; omega
def Rise (cf : α → α → Int) (tg : α → Nat) (a b : Nat) (d : Array α) : Prop := ∀ i j, a ≤ i → i < j → j < b → Lx cf tg d[i]! d[j]!
theorem Rise.congr {a b : Nat} {d d' : Array α} (h : Rise cf tg a b d) (he : ∀ x, a ≤ x → x < b → d'[x]! = d[x]!) : Rise cf tg a b d' := fun i j h1 h2 h3 => by
 rw [he i h1 (by omega), he j (by omega) h3]; exact h i j h1 h2 h3
theorem Rise.sub {a b a' b' : Nat} {d : Array α} (h : Rise cf tg a b d) (h1 : a ≤ a') (h2 : b' ≤ b) : Rise cf tg a' b' d := fun i j g1 g2 g3 => h i j (by omega) g2 (by omega)
theorem Rise.join {a m b : Nat} {d : Array α} (h1 : Rise cf tg a m d) (h2 : Rise cf tg m b d) (h3 : ∀ i j, a ≤ i → i < m → m ≤ j → j < b → Lx cf tg d[i]! d[j]!) : Rise cf tg a b d := fun i j g1 g2 g3 => by
 by_cases hj : j < m
 ·exact h1 i j g1 g2 hj
 ·by_cases hi : i < m
  ·exact h3 i j g1 hi (by omega) g3
  ·exact h2 i j (by omega) g2 g3
def swr (a b n : Nat) (f : Nat → α) (x : Nat) : α := if a ≤ x ∧ x < a + n then f (x + (b - a)) else if b ≤ x ∧ x < b + n then f (x - (b - a)) else f x
theorem swr_zero (a b : Nat) (f : Nat → α) (x : Nat) : swr a b 0 f x = f x := by
 unfold swr; rw [if_neg (by omega), if_neg (by omega)]
theorem swr_step {a b n : Nat} {d dk : Array α} (hab : a + n < b) (hb : b + n < d.size) (hs : dk.size = d.size) (h : ∀ x, x < d.size → dk[x]! = swr a b n (fun i => d[i]!) x) :
 ∀ x, x < d.size → (swp dk (a + n) (b + n))[x]! = swr a b (n + 1) (fun i => d[i]!) x := by
 intro x hx
 rw [swp_get dk (by omega) (by omega), h (a + n) (by omega), h (b + n) hb, h x hx]
 unfold swr
 (try dsimp only)
 repeat' split
 all_goals first | (exfalso; omega) | rfl | (congr 1; omega)
def rot (a m b : Nat) (f : Nat → α) (x : Nat) : α := if a ≤ x ∧ x < a + (b - m) then f (x + (m - a)) else if a + (b - m) ≤ x ∧ x < b then f (x - (b - m)) else f x
theorem rot_gt {m i j : Nat} (f : Nat → α) (hm : i ≤ m) (hij : j < i) (x : Nat) : rot (m - (i - j)) m (m + j) (swr (m - i) m j f) x = rot (m - i) m (m + j) f x := by
 unfold rot swr
 (try dsimp only)
 repeat' split
 all_goals first | (exfalso; omega) | rfl | (congr 1; omega)
theorem rot_lt {m i j : Nat} (f : Nat → α) (hm : i ≤ m) (hij : i < j) (x : Nat) : rot (m - i) m (m + (j - i)) (swr (m - i) (m + j - i) i f) x = rot (m - i) m (m + j) f x := by
 unfold rot swr
 (try dsimp only)
 repeat' split
 all_goals first | (exfalso; omega) | rfl | (congr 1; omega)
theorem rot_eq {m i : Nat} (f : Nat → α) (hm : i ≤ m) (x : Nat) : swr (m - i) m i f x = rot (m - i) m (m + i) f x := by
 unfold rot swr
 repeat' split
 all_goals first | (exfalso; omega) | rfl | (congr 1; omega)
theorem rot_congr {a m b n : Nat} {f g : Nat → α} (hm : a ≤ m) (hmb : m ≤ b) (hb : b ≤ n) (h : ∀ x, x < n → f x = g x) (x : Nat) (hx : x < n) : rot a m b f x = rot a m b g x := by
 unfold rot
 repeat' split
 all_goals exact h _ (by omega)
theorem rot_left {m b : Nat} (f : Nat → α) (x : Nat) : rot m m b f x = f x := by
 unfold rot
 repeat' split
 all_goals first | (exfalso; omega) | rfl | (congr 1; omega)
theorem rot_right {a m : Nat} (f : Nat → α) (x : Nat) : rot a m m f x = f x := by
 unfold rot
 repeat' split
 all_goals first | (exfalso; omega) | rfl | (congr 1; omega)
def shu (a k : Nat) (f : Nat → α) (x : Nat) : α := if a ≤ x ∧ x < k then f (x + 1) else if x = k then f a else f x
theorem shu_zero (a : Nat) (f : Nat → α) (x : Nat) : shu a a f x = f x := by
 unfold shu
 repeat' split
 all_goals first | (exfalso; omega) | rfl | (congr 1; omega)
theorem shu_step {a k : Nat} {d dk : Array α} (hak : a ≤ k) (hk : k + 1 < d.size) (hs : dk.size = d.size) (h : ∀ x, x < d.size → dk[x]! = shu a k (fun i => d[i]!) x) :
 ∀ x, x < d.size → (swp dk k (k + 1))[x]! = shu a (k + 1) (fun i => d[i]!) x := by
 intro x hx
 rw [swp_get dk (by omega) (by omega), h k (by omega), h (k + 1) hk, h x hx]
 unfold shu
 (try dsimp only)
 repeat' split
 all_goals first | (exfalso; omega) | rfl | (congr 1; omega)
def shd (k m : Nat) (f : Nat → α) (x : Nat) : α := if k < x ∧ x ≤ m then f (x - 1) else if x = k then f m else f x
theorem shd_zero (m : Nat) (f : Nat → α) (x : Nat) : shd m m f x = f x := by
 unfold shd
 repeat' split
 all_goals first | (exfalso; omega) | rfl | (congr 1; omega)
theorem shd_step {k m : Nat} {d dk : Array α} (hkm : k + 1 ≤ m) (hm : m < d.size) (hs : dk.size = d.size) (h : ∀ x, x < d.size → dk[x]! = shd (k + 1) m (fun i => d[i]!) x) :
 ∀ x, x < d.size → (swp dk (k + 1) k)[x]! = shd k m (fun i => d[i]!) x := by
 intro x hx
 rw [swp_get dk (by omega) (by omega), h k (by omega), h (k + 1) (by omega), h x hx]
 unfold shd
 (try dsimp only)
 repeat' split
 all_goals first | (exfalso; omega) | rfl | (congr 1; omega)
structure Mrg (cf : α → α → Int) (tg : α → Nat) (a m b : Nat) (d : Array α) : Prop where
 am : a < m
 mb : m < b
 bs : b ≤ d.size
 l : Rise cf tg a m d
 r : Rise cf tg m b d
 x : ∀ i j, a ≤ i → i < m → m ≤ j → j < b → tg d[i]! < tg d[j]!
theorem Mrg.one (hO : COrd cf) {a b i : Nat} {d d' : Array α} (h : Mrg cf tg a (a + 1) b d) (hi : a + 1 ≤ i) (hib : i ≤ b)
 (h1 : i = a + 1 ∨ cf d[i - 1]! d[a]! < 0) (h2 : i = b ∨ ¬ cf d[i]! d[a]! < 0) (hd : ∀ x, x < d.size → d'[x]! = shu a (i - 1) (fun k => d[k]!) x) : Rise cf tg a b d' := by
 have hb := h.bs
 have lo : ∀ k, a + 1 ≤ k → k < i → Lx cf tg d[k]! d[a]! := fun k g1 g2 => by
  rcases h1 with h1 | h1
  ·omega
  ·by_cases e : k = i - 1
   ·subst e; exact Or.inl h1
   ·exact (h.r k (i - 1) g1 (by omega) (by omega)).trans hO (Or.inl h1)
 have hi' : ∀ k, i ≤ k → k < b → Lx cf tg d[a]! d[k]! := fun k g1 g2 => by
  rcases h2 with h2 | h2
  ·omega
  ·have hx : Lx cf tg d[a]! d[i]! := Lx.of_not hO (h.x a i (qN0) (by omega) (by omega) (by omega)) h2
   by_cases e : k = i
   ·subst e; exact hx
   ·exact hx.trans hO (h.r i k (by omega) (by omega) g2)
 intro p q g1 g2 g3
 rw [hd p (by omega), hd q (by omega)]
 unfold shu
 (try dsimp only)
 repeat' split
 all_goals first
  | (exfalso; omega)
  | exact h.r _ _ (by omega) (by omega) (by omega)
  | exact lo _ (by omega) (by omega)
  | exact hi' _ (by omega) (by omega)
theorem Mrg.last (hO : COrd cf) {a m i : Nat} {d d' : Array α} (h : Mrg cf tg a m (m + 1) d) (hi : a ≤ i) (hib : i ≤ m)
 (h1 : i = a ∨ ¬ cf d[m]! d[i - 1]! < 0) (h2 : i = m ∨ cf d[m]! d[i]! < 0) (hd : ∀ x, x < d.size → d'[x]! = shd i m (fun k => d[k]!) x) : Rise cf tg a (m + 1) d' := by
 have hb := h.bs
 have hm := h.am
 have lo : ∀ k, a ≤ k → k < i → Lx cf tg d[k]! d[m]! := fun k g1 g2 => by
  rcases h1 with h1 | h1
  ·omega
  ·have hx : Lx cf tg d[i - 1]! d[m]! := Lx.of_not hO (h.x (i - 1) m (by omega) (by omega) (qN0) (by omega)) h1
   by_cases e : k = i - 1
   ·subst e; exact hx
   ·exact (h.l k (i - 1) g1 (by omega) (by omega)).trans hO hx
 have hi' : ∀ k, i ≤ k → k < m → Lx cf tg d[m]! d[k]! := fun k g1 g2 => by
  rcases h2 with h2 | h2
  ·omega
  ·by_cases e : k = i
   ·subst e; exact Or.inl h2
   ·exact Lx.trans hO (Or.inl h2) (h.l i k (by omega) (by omega) g2)
 intro p q g1 g2 g3
 rw [hd p (by omega), hd q (by omega)]
 unfold shd
 (try dsimp only)
 repeat' split
 all_goals first
  | (exfalso; omega)
  | exact h.l _ _ (by omega) (by omega) (by omega)
  | exact lo _ (by omega) (by omega)
  | exact hi' _ (by omega) (by omega)
structure Cutp (cf : α → α → Int) (a m b mid s : Nat) (d : Array α) : Prop where
 lo : a ≤ s
 hi : s ≤ mid
 sm : s ≤ m
 e : mid + m - s ≤ b
 p1 : s = a ∨ mid + m - s = b ∨ ¬ cf d[mid + m - s]! d[s - 1]! < 0
 p2 : s = m ∨ s = mid ∨ cf d[mid + m - s - 1]! d[s]! < 0
theorem Mrg.turned (hO : COrd cf) {a m b mid s : Nat} {d d' : Array α} (h : Mrg cf tg a m b d) (c : Cutp cf a m b mid s d) (ham : a < mid) (hmb : mid < b)
 (hs : d'.size = d.size) (hd : ∀ x, x < d.size → d'[x]! = rot s m (mid + m - s) (fun k => d[k]!) x) :
 (a < s → s < mid → Mrg cf tg a s mid d') ∧ (¬ (a < s ∧ s < mid) → Rise cf tg a mid d') ∧ (mid < mid + m - s → mid + m - s < b → Mrg cf tg mid (mid + m - s) b d') ∧ (¬ (mid < mid + m - s ∧ mid + m - s < b) → Rise cf tg mid b d') ∧
 (∀ i j, a ≤ i → i < mid → mid ≤ j → j < b → Lx cf tg d'[i]! d'[j]!) := by
 have hb := h.bs
 have am := h.am
 have mb := h.mb
 obtain ⟨lo, hi, sm, e, p1, p2⟩ := c
 have g : ∀ x, x < b → d'[x]! = if s ≤ x ∧ x < mid then d[x + (m - s)]! else if mid ≤ x ∧ x < mid + m - s then d[x - (mid - s)]! else d[x]! := fun x hx => by
  rw [hd x (by omega)]
  unfold rot
  (try dsimp only)
  repeat' split
  all_goals first | (exfalso; omega) | rfl | (congr 1; omega)
 have A1 : Rise cf tg a s d' := h.l.sub (qN0) sm |>.congr fun x h1 h2 => by rw [g x (by omega), if_neg (by omega), if_neg (by omega)]
 have A2 : Rise cf tg s mid d' := fun i j h1 h2 h3 => by
  rw [g i (by omega), g j (by omega), if_pos (by omega), if_pos (by omega)]
  exact h.r _ _ (by omega) (by omega) (by omega)
 have B1 : Rise cf tg mid (mid + m - s) d' := fun i j h1 h2 h3 => by
  rw [g i (by omega), g j (by omega), if_neg (by omega), if_pos (by omega), if_neg (by omega), if_pos (by omega)]
  exact h.l _ _ (by omega) (by omega) (by omega)
 have B2 : Rise cf tg (mid + m - s) b d' := fun i j h1 h2 h3 => by
  rw [g i (by omega), g j (by omega), if_neg (by omega), if_neg (by omega), if_neg (by omega), if_neg (by omega)]
  exact h.r _ _ (by omega) (by omega) (by omega)
 refine ⟨fun k1 k2 => ⟨k1, k2, by omega, A1, A2, fun i j h1 h2 h3 h4 => ?_⟩, fun hn => ?_, fun k1 k2 => ⟨k1, k2, by omega, B1, B2, fun i j h1 h2 h3 h4 => ?_⟩, fun hn => ?_, fun i j h1 h2 h3 h4 => ?_⟩
 ·rw [g i (by omega), g j (by omega), if_neg (by omega), if_neg (by omega), if_pos (by omega)]
  exact h.x _ _ (by omega) (by omega) (by omega) (by omega)
 ·by_cases hsa : s = a
  ·exact hsa ▸ A2
  ·have : s = mid := by omega
   exact this ▸ A1
 ·rw [g i (by omega), g j (by omega), if_neg (by omega), if_pos (by omega), if_neg (by omega), if_neg (by omega)]
  exact h.x _ _ (by omega) (by omega) (by omega) (by omega)
 ·by_cases hsa : s = m
  ·have : mid + m - s = mid := by omega
   exact this ▸ B2
  ·have : mid + m - s = b := by omega
   exact this ▸ B1
 ·rw [g i (by omega), g j (by omega)]
  have X1 : ∀ u v, a ≤ u → u < s → mid + m - s ≤ v → v < b → Lx cf tg d[u]! d[v]! := fun u v q1 q2 q3 q4 => by
   rcases p1 with p1 | p1 | p1
   ·omega
   ·omega
   ·have hx : Lx cf tg d[s - 1]! d[mid + m - s]! := Lx.of_not hO (h.x _ _ (by omega) (by omega) (by omega) (by omega)) p1
    have h5 : Lx cf tg d[u]! d[mid + m - s]! := by
     by_cases e : u = s - 1
     ·subst e; exact hx
     ·exact (h.l u (s - 1) q1 (by omega) (by omega)).trans hO hx
    by_cases e : v = mid + m - s
    ·subst e; exact h5
    ·exact h5.trans hO (h.r _ v (by omega) (by omega) q4)
  have X2 : ∀ u v, m ≤ u → u < mid + m - s → s ≤ v → v < m → Lx cf tg d[u]! d[v]! := fun u v q1 q2 q3 q4 => by
   rcases p2 with p2 | p2 | p2
   ·omega
   ·omega
   ·have h5 : Lx cf tg d[u]! d[s]! := by
     by_cases e : u = mid + m - s - 1
     ·subst e; exact Or.inl p2
     ·exact (h.r u (mid + m - s - 1) q1 (by omega) (by omega)).trans hO (Or.inl p2)
    by_cases e : v = s
    ·subst e; exact h5
    ·exact h5.trans hO (h.l s v (by omega) (by omega) q4)
  repeat' split
  all_goals first
   | (exfalso; omega)
   | exact X1 _ _ (by omega) (by omega) (by omega) (by omega)
   | exact X2 _ _ (by omega) (by omega) (by omega) (by omega)
   | exact h.l _ _ (by omega) (by omega) (by omega)
   | exact h.r _ _ (by omega) (by omega) (by omega)
theorem rise_both (a mid b : Nat) {d1 d2 d3 : Array α} (hmb : mid ≤ b) (hb : b ≤ d1.size) (hx : ∀ i j, a ≤ i → i < mid → mid ≤ j → j < b → Lx cf tg d1[i]! d1[j]!)
 (h1 : PermIn a mid d1 d2) (r1 : Rise cf tg a mid d2) (h2 : PermIn mid b d2 d3) (r2 : Rise cf tg mid b d3) : Rise cf tg a b d3 := by
 have k1 : ∀ i, a ≤ i → i < mid → ∀ j, mid ≤ j → j < b → Lx cf tg d2[i]! d1[j]! := permIn_all d1 d2 a mid (fun x => ∀ j, mid ≤ j → j < b → Lx cf tg x d1[j]!) (by omega) h1 (fun i q1 q2 j q3 q4 => hx i j q1 q2 q3 q4)
 have k2 : ∀ j, mid ≤ j → j < b → ∀ i, a ≤ i → i < mid → Lx cf tg d2[i]! d3[j]! := permIn_all d2 d3 mid b (fun y => ∀ i, a ≤ i → i < mid → Lx cf tg d2[i]! y) (by rw [h1.1]; omega) h2 (fun j q1 q2 i q3 q4 => by rw [h1.2.1 j (Or.inr q1)]; exact k1 i q3 q4 j q1 q2)
 refine Rise.join (r1.congr fun x q1 q2 => h2.2.1 x (Or.inl q2)) r2 fun i j q1 q2 q3 q4 => ?_
 rw [h2.2.1 i (Or.inl q2)]
 exact k2 j q3 q4 i q1 q2
end
end Go.Proofs.YtckammgnmgkieaaGreat.Stb
