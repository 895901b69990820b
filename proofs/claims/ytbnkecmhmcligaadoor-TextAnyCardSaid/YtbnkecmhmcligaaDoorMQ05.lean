/-
  Package name's contracts in one spelling, for laws: arguments that read as names, answers named by equations.
-/
import Derived.Test.YtbnkecmhmcligaaDoorMQ07
import Derived.Test.YtbnkecmhmcligaaDoorMQ36
import Derived.Test.YtbnkecmhmcligaaDoorMQ20
import Derived.Test.YtbnkecmhmcligaaDoorMQ21
import Derived.Test.YtbnkecmhmcligaaDoorMQ35
import Derived.Test.YtbnkecmhmcligaaDoorMQ27
namespace Go.Proofs.YtbnkecmhmcligaaDoor
set_option linter.unusedVariables false
set_option linter.unusedSimpArgs false
set_option maxRecDepth 20000
open Go.RowKit Go.Shelf

theorem NmAt.alloc {W : World} {v : Value} {xs : Nm} (h : NmAt W v xs) (o : Obj) : NmAt (W.alloc o) v xs := h.below ((Below.refl _ _).alloc (Nat.le_refl _) _)

theorem nm_lit (W : World) (ys : Nm) (cs : List Value) (k g : Nat) (hc : cs = ys.map strV) (hk : ys.length = k) (hm : k ≤ 1048576) (hg : W.heap.size = g) :
    NmAt (W.alloc (.cells cs.toArray 9)) (.slice (some ⟨g, 0, none⟩) k k) ys := by
  subst hc hk hg
  exact (OwnG.lit (T := 9) (enc := strV) W W.heap.size (Nat.le_refl _) ys (by unfold maxLen; omega)).nmAt
theorem nmOK_of {xs : Nm} (h : fewN xs = true) : NmOK xs := fewN_ok h

def NmRes (xs : Nm) (k : Nat) (w : World) (e : Ending) (w' : World) : Prop := ∃ a c, e = .returned (.slice a k c) ∧ NmAt w' (.slice a k c) xs ∧ Below w.heap.size w w'
def NmRes2 (xs : Nm) (k : Nat) (er : Int) (w : World) (e : Ending) (w' : World) : Prop := ∃ a c, e = .returned (.tuple #[.slice a k c, .int .i64 er]) ∧ NmAt w' (.slice a k c) xs ∧ Below w.heap.size w w'
theorem nmRes_of {xs : Nm} {k : Nat} {w w' : World} {v : Value} (hk : xs.length = k) (ho : OwnG 9 strV w' w.heap.size v xs) (hb : Below w.heap.size w w') : NmRes xs k w (.returned v) w' := by
  subst hk
  obtain ⟨a, c, rfl⟩ := ho.shape
  exact ⟨a, c, rfl, ho.nmAt, hb⟩
theorem nmRes2_of {xs : Nm} {k : Nat} {er : Int} {w w' : World} {v : Value} (hk : xs.length = k) (ho : OwnG 9 strV w' w.heap.size v xs) (hb : Below w.heap.size w w') : NmRes2 xs k er w (.returned (.tuple #[v, .int .i64 er])) w' := by
  subst hk
  obtain ⟨a, c, rfl⟩ := ho.shape
  exact ⟨a, c, rfl, ho.nmAt, hb⟩

theorem kn_NText (v : Value) (n : Nm) (t : List UInt8) (h : textN n = t) (w : World) (hA : NmAt w v n) (h1 : NmOK n) :
    Calls Tryd.prog 34 #[v] w fun e w' => e = .returned (.string ⟨t.toArray⟩) ∧ Below w.heap.size w w' := by
  subst h; exact name_Text v n w hA.1 h1
end Go.Proofs.YtbnkecmhmcligaaDoor

/-
  Texts put together with one between any two: strings.Join, the document's Joined. (Out of XDatP, XDatJ1, XRefY.)
-/
namespace Go.Proofs.YtbnkecmhmcligaaDoor
set_option linter.unusedVariables false
set_option linter.unusedSimpArgs false
set_option maxRecDepth 20000
open Go.RowKit Go.Shelf
set_option maxRecDepth 20000
def sepBy (sep : List UInt8) : List (List UInt8) → List UInt8
  | [] => []
  | [x] => x
  | x :: y :: r => x ++ sep ++ sepBy sep (y :: r)
theorem sepBy_snoc (sep : List UInt8) (x : List UInt8) : ∀ l : Nm, sepBy sep (l ++ [x]) = if l = [] then x else sepBy sep l ++ sep ++ x
  | [] => rfl
  | [y] => by simp [sepBy]
  | y :: z :: r => by
    have ih := sepBy_snoc sep x (z :: r)
    rw [if_neg (by simp)] at ih ⊢
    have e : sepBy sep ((y :: z :: r) ++ [x]) = y ++ sep ++ sepBy sep ((z :: r) ++ [x]) := rfl
    rw [e, ih]
    simp [sepBy]
theorem sepBy_pre1 (sep : List UInt8) (a : Nm) (x : List UInt8) : (sepBy sep a).length ≤ (sepBy sep (a ++ [x])).length := by
  rw [sepBy_snoc]
  by_cases h : a = []
  · subst h; simp [sepBy]
  · rw [if_neg h]; simp only [List.length_append]; omega
theorem sepBy_pre (sep : List UInt8) : ∀ (b a : Nm), (sepBy sep a).length ≤ (sepBy sep (a ++ b)).length
  | [], a => by simp
  | x :: b, a => by
    have h := sepBy_pre sep b (a ++ [x])
    rw [List.append_assoc] at h
    exact Nat.le_trans (sepBy_pre1 sep a x) h

set_option maxHeartbeats 4000000 in
theorem ref_Joined (v : Value) (xs : Nm) (sep : List UInt8) (w : World) (hA : StrsAt w v xs) (hN : xs.length ≤ 1048576) (hlen : (sepBy sep xs).length ≤ 140737488355328) :
    Calls Tryd.prog 16 #[v, .string ⟨sep.toArray⟩] w fun e w' => e = .returned (.string ⟨(sepBy sep xs).toArray⟩) ∧ Below w.heap.size w w' := by
  obtain ⟨a, c, rfl, _⟩ := id hA
  obtain ⟨n, hn⟩ : ∃ n, xs.length = n := ⟨_, rfl⟩
  have hcell := fun W' (hb : Below w.heap.size w W') j hj => hA.cell hb j hj
  rw [hn] at hN ⊢
  have HN := Lib.hid hn
  have HL := Lib.hid hlen
  clear hA hn hlen
  go_enter Tryd.func16, Tryd.ntmps16
  go_wp2
  go_loopw [5, 6] (fun u i wr => ∃ (k : Nat) (T : List UInt8), i = .int .i64 k ∧ k ≤ n ∧ u = .string ⟨T.toArray⟩ ∧ Below w.heap.size w wr ∧ Hid (sepBy sep (xs.take k) = T)) (fun _ i _ => n - (intOf i).toNat)
  case atStart => exact ⟨0, [], rfl, Nat.zero_le _, rfl, Below.refl _ _, Lib.hid rfl⟩
  case round =>
    obtain ⟨k, T, rfl, hkn, rfl, hB, HF⟩ := hrel
    by_cases hlt : k < n
    · have hkp : k < xs.length := by rw [HN.out]; exact hlt
      obtain ⟨g, off, rfl, hg, hc⟩ := hcell wr hB k hkp
      obtain ⟨s, hs0, hsz, hsv⟩ := str_of xs[k]
      rw [hsv] at hc
      have hr : sepBy sep (xs.take (k + 1)) = if xs.take k = [] then xs[k] else T ++ sep ++ xs[k] := by rw [List.take_succ_eq_append_getElem hkp, sepBy_snoc, HF.out]
      have hpl : (sepBy sep (xs.take (k + 1))).length ≤ 140737488355328 := by
        refine Nat.le_trans ?_ HL.out
        have h := sepBy_pre sep (xs.drop (k + 1)) (xs.take (k + 1))
        rw [List.take_append_drop] at h; exact h
      obtain rfl : s = ⟨xs[k].toArray⟩ := ba_ext (by simpa using hs0)
      clear hs0 hsz hsv
      by_cases hk0 : k = 0
      · have ht0 : xs.take k = [] := by rw [hk0]; rfl
        have hT : T = [] := by rw [← HF.out, ht0]; rfl
        subst hT
        rw [if_pos ht0] at hr
        rw [hr] at hpl
        have HR := Lib.hid hr; clear hr
        generalize xs[k] = y at *
        have hk1 : ¬ (0 : Int) < (k : Int) := by omega
        have HK0 := Lib.hid hk0
        clear ht0 hk0
        have a1 := run_string_add_sum (P := Tryd.prog) wr ⟨#[]⟩ ⟨y.toArray⟩ (by have h1 := mk_size y; have h2 : (⟨#[]⟩ : ByteArray).size = 0 := rfl; omega)
        have e1 : (⟨#[]⟩ : ByteArray) ++ ⟨y.toArray⟩ = ⟨y.toArray⟩ := mk_append [] y
        rw [e1] at a1
        clear e1 hpl HF
        go_wp2
        go_roundw
        case rel => exact ⟨k + 1, y, by go_num, by omega, rfl, hB, HR⟩
        case measure => simp [intOf]; omega
      · rw [if_neg (by intro e; have := congrArg List.length e; rw [List.length_take, List.length_nil] at this; omega)] at hr
        rw [hr] at hpl
        have HR := Lib.hid hr; clear hr
        generalize xs[k] = y at *
        have hk1 : (0 : Int) < (k : Int) := by omega
        simp only [List.length_append] at hpl
        have a1 := run_string_add_sum (P := Tryd.prog) wr ⟨T.toArray⟩ ⟨sep.toArray⟩ (by rw [mk_size, mk_size]; omega)
        rw [mk_append] at a1
        have a2 := run_string_add_sum (P := Tryd.prog) wr ⟨(T ++ sep).toArray⟩ ⟨y.toArray⟩ (by rw [mk_size, mk_size, List.length_append]; omega)
        rw [mk_append] at a2
        clear hpl HF
        generalize hZ : T ++ sep ++ y = Z at *
        generalize hY : T ++ sep = Y at *
        clear hZ hY
        go_wp2
        go_roundw
        case rel => exact ⟨k + 1, Z, by go_num, by omega, rfl, hB, HR⟩
        case measure => simp [intOf]; omega
    · obtain rfl : k = n := by omega
      have HR := Lib.hid (show sepBy sep xs = T from by rw [← HF.out, List.take_of_length_le (by rw [HN.out]; exact Nat.le_refl _)])
      go_wp2
      go_ret
      exact ⟨by rw [HR.out]; rfl, hB⟩
theorem sepBy_cons (sep x : List UInt8) (r : Nm) (h : r ≠ []) : sepBy sep (x :: r) = x ++ sep ++ sepBy sep r := by
  cases r with
  | nil => exact absurd rfl h
  | cons y t => rfl
theorem sepBy_join (sep : List UInt8) : ∀ xs : Nm, Lib.join xs sep = sepBy sep xs
  | [] => rfl
  | [x] => by rw [Lib.join_one]; rfl
  | x :: y :: r => by
    have ih := sepBy_join sep (y :: r)
    have e : Lib.join (x :: y :: r) sep = x ++ sep ++ Lib.join (y :: r) sep := by
      unfold Lib.join
      simp [List.intercalate, List.intersperse]
    rw [e, ih]; rfl
theorem sepBy_len (sep : List UInt8) (B : Nat) : ∀ xs : Nm, (∀ x ∈ xs, x.length ≤ B) → (sepBy sep xs).length ≤ xs.length * (B + sep.length)
  | [], _ => by simp [sepBy]
  | [x], h => by have := h x (by simp); simp [sepBy]; omega
  | x :: y :: r, h => by
    have h1 := h x (by simp)
    have h2 := sepBy_len sep B (y :: r) (fun z hz => h z (by simp [hz]))
    have e : (sepBy sep (x :: y :: r)).length = x.length + sep.length + (sepBy sep (y :: r)).length := by simp [sepBy]; omega
    rw [e]
    have e2 : (x :: y :: r).length * (B + sep.length) = (B + sep.length) + (y :: r).length * (B + sep.length) := by
      rw [List.length_cons, Nat.add_mul]; omega
    omega
theorem join_nm (v : Value) (xs : Nm) (sep : ByteArray) (w : World) (hA : NmAt w v xs) (hN : xs.length ≤ 1048576) (hlen : (sepBy sep.data.toList xs).length ≤ 140737488355328) :
    Calls Tryd.prog 48 #[v, .string sep] w fun e w' => e = .returned (.string ⟨(sepBy sep.data.toList xs).toArray⟩) ∧ Below w.heap.size w w' := by
  obtain ⟨⟨a, c, rfl, hx⟩, ⟨a', n', c', e, hc, _⟩⟩ := hA
  cases e
  rcases hx with rfl | ⟨b, off, rfl, hb, hcell⟩
  · refine (Tryd.strings_Join_none a c sep w).mono ?_
    rintro e w' ⟨rfl, rfl⟩
    exact ⟨rfl, Below.refl _ _⟩
  · have hm : (xs.map fun l => (⟨l.toArray⟩ : ByteArray)).map (·.data.toList) = xs := by rw [List.map_map]; simp [Function.comp_def]
    have h := Tryd.strings_Join b off c (xs.map fun l => (⟨l.toArray⟩ : ByteArray)) sep w (fun j x hx => by
        rw [List.getElem?_map] at hx
        cases hj : xs[j]? with
        | none => rw [hj] at hx; simp at hx
        | some l =>
          rw [hj] at hx
          have hx : (⟨l.toArray⟩ : ByteArray) = x := by simpa using hx
          obtain ⟨hjl, hjv⟩ := List.getElem?_eq_some_iff.1 hj
          rw [hcell j hjl, hjv, ← hx]; rfl) hb (by rw [List.length_map]; omega) (by rw [List.length_map]; exact hc) (by rw [hm, sepBy_join]; exact hlen)
    rw [List.length_map, hm, sepBy_join] at h
    exact h

end Go.Proofs.YtbnkecmhmcligaaDoor

