/-
  gen.Put on texts without the sign, and with the sign in the middle.
-/
import Derived.Test.YtgalihmmlcnahaaDoorGenI
namespace Go.Proofs.YtgalihmmlcnahaaDoor
open Go.RowKit Go.Shelf Go.Sort
set_option maxRecDepth 20000
set_option linter.unusedVariables false
set_option linter.unusedSimpArgs false

def plainG (l : List UInt8) : Prop := ∀ c ∈ l, c ≠ 36 ∧ c ≠ 92
theorem hasPrefix_head {l : List UInt8} {a b : UInt8} (h : Lib.hasPrefix l [a, b] = true) : ∃ r, l = a :: b :: r := by
  rcases l with _ | ⟨x, _ | ⟨y, l⟩⟩
  · exact absurd h (by simp [Lib.hasPrefix])
  · exact absurd h (by simp [Lib.hasPrefix])
  · simp [Lib.hasPrefix] at h
    exact ⟨l, by rw [h.1, h.2]⟩
theorem hasPrefix_ne {l : List UInt8} {x a b : UInt8} (h : x ≠ a) : Lib.hasPrefix (x :: l) [a, b] = false := by
  cases e : Lib.hasPrefix (x :: l) [a, b] with
  | false => rfl
  | true =>
    obtain ⟨r, hr⟩ := hasPrefix_head e
    cases hr
    exact absurd rfl h
theorem piece_plain {br : Nat → List UInt8 × Nat × Nat} {num l : List UInt8} {c : UInt8} {i : Nat} (h1 : c ≠ 36) (h2 : c ≠ 92) : pieceM br num i (c :: l) = ([c], 1, 0) := by
  unfold pieceM
  rw [hasPrefix_ne h2, hasPrefix_ne h1, hasPrefix_ne h1, if_neg (by simp), if_neg (by simp), if_neg (by simp), if_neg (by simpa using h1)]
  rfl
theorem putM_plain {br : Nat → List UInt8 × Nat × Nat} {num l : List UInt8} : ∀ (p : List UInt8) (i : Nat) (acc q : List UInt8) (f : Nat), plainG p → l.drop i = p ++ q → putM br num l (f + p.length) i acc = putM br num l f (i + p.length) (acc ++ p) := by
  intro p
  induction p with
  | nil => intro i acc q f _ _; simp
  | cons c p ih =>
    intro i acc q f hp hd
    have hi : i < l.length := by
      have := congrArg List.length hd
      simp at this; omega
    have hc := hp c (by simp)
    have h1 : pieceM br num i (l.drop i) = ([c], 1, 0) := by rw [hd]; exact piece_plain hc.1 hc.2
    have hd2 : l.drop (i + 1) = p ++ q := by rw [← List.drop_drop, hd]; rfl
    rw [List.length_cons, show f + (p.length + 1) = (f + p.length) + 1 from by omega, putM_step hi h1, ih (i + 1) (acc ++ [c]) q f (fun x hx => hp x (List.mem_cons_of_mem _ hx)) hd2]
    rw [show i + 1 + p.length = i + (p.length + 1) from by omega, List.append_assoc]
    rfl
def brN (_ : Nat) : List UInt8 × Nat × Nat := ([], 0, 0)
theorem putM_all {num l : List UInt8} (h : plainG l) : putM brN num l (l.length + 1) 0 [] = (l, 0) := by
  rw [show l.length + 1 = 1 + l.length from by omega, putM_plain l 0 [] [] 1 h (by simp), putM_end _ _ (by omega)]
  rfl
theorem putM_mid {num l : List UInt8} (h : plainG l) : putM brN num (l ++ [36, 46] ++ l) ((l ++ [36, 46] ++ l).length + 1) 0 [] = (l ++ num ++ [46] ++ l, 0) := by
  have hl : (l ++ [36, 46] ++ l).length + 1 = (1 + l.length + 1 + 1) + l.length := by simp; omega
  have hd0 : (l ++ [36, 46] ++ l).drop (0 + l.length) = 36 :: 46 :: l := by simp
  have hd1 : (l ++ [36, 46] ++ l).drop (0 + l.length + 1) = 46 :: l := by rw [← List.drop_drop, hd0]; rfl
  have hd2 : (l ++ [36, 46] ++ l).drop (0 + l.length + 1 + 1) = l ++ [] := by rw [← List.drop_drop, hd1]; simp
  have hp0 : pieceM brN num (0 + l.length) ((l ++ [36, 46] ++ l).drop (0 + l.length)) = (num, 1, 0) := by
    rw [hd0]
    unfold pieceM
    rw [hasPrefix_ne (by decide), if_neg (by simp), if_neg (by intro e; obtain ⟨r, hr⟩ := hasPrefix_head e; cases hr), if_neg (by intro e; obtain ⟨r, hr⟩ := hasPrefix_head e; cases hr)]
    rfl
  have hp1 : pieceM brN num (0 + l.length + 1) ((l ++ [36, 46] ++ l).drop (0 + l.length + 1)) = ([46], 1, 0) := by
    rw [hd1]; exact piece_plain (by decide) (by decide)
  rw [hl, putM_plain l 0 [] ([36, 46] ++ l) _ h (by simp), putM_step (by simp) hp0, putM_step (by simp) hp1, putM_plain l _ _ [] 1 h hd2, putM_end _ _ (by simp; omega)]
  simp
theorem put_plain (s : ByteArray) (n : Nat) (hn : n < 65536) (hs : s.size ≤ 100) (hp : plainG s.data.toList) (w : World) (hw : TG w) :
    Calls Tryd.prog 12 #[.string s, .int .i64 (n : Int)] w fun e w' => e = .returned (.tuple #[.string s, .int .i64 0]) ∧ Below w.heap.size w w' := by
  have hl5 := dec_len5 n hn
  have no : ∀ i, Lib.hasPrefix (s.data.toList.drop i) [36, 123] = true → False := fun i h => by
    obtain ⟨r, hr⟩ := hasPrefix_head h
    exact (hp 36 (List.mem_of_mem_drop (i := i) (by rw [hr]; simp))).1 rfl
  refine (gen_Put s n brN (Lib.decDigits n) TG (fun _ _ h hb => h.below hb) (by omega) (fun i W hi h hq => (no i hq).elim) (fun i hi hq => (no i hq).elim) (fun W h => itoaG n hn W h) (by omega) w hw).mono ?_
  rintro e w' ⟨he, hb⟩
  refine ⟨?_, hb⟩
  have h1 : putM brN (Lib.decDigits n) s.data.toList (s.size + 1) 0 [] = (s.data.toList, 0) := by rw [← size_data]; exact putM_all hp
  rw [he, h1]
  rfl
theorem put_mid (s t : ByteArray) (n : Nat) (hn : n < 65536) (hs : s.size ≤ 100) (hp : plainG s.data.toList) (ht : t.data.toList = s.data.toList ++ [36, 46] ++ s.data.toList) (w : World) (hw : TG w) :
    Calls Tryd.prog 12 #[.string t, .int .i64 (n : Int)] w fun e w' => e = .returned (.tuple #[.string ⟨(s.data.toList ++ Lib.decDigits n ++ [46] ++ s.data.toList).toArray⟩, .int .i64 0]) ∧ Below w.heap.size w w' := by
  have hl5 := dec_len5 n hn
  have hts : t.size = s.size + 2 + s.size := by rw [← size_data, ht]; simp [size_data]; omega
  have no : ∀ i, Lib.hasPrefix (t.data.toList.drop i) [36, 123] = true → False := fun i h => by
    obtain ⟨r, hr⟩ := hasPrefix_head h
    have h0 : t.data.toList[i]? = some 36 := by rw [← List.head?_drop, hr]; rfl
    have h1 : t.data.toList[i + 1]? = some 123 := by rw [← List.head?_drop, ← List.drop_drop, hr]; rfl
    rw [ht] at h0 h1
    rcases Nat.lt_trichotomy i s.size with hi | hi | hi
    · rw [List.append_assoc, List.getElem?_append_left (by rw [size_data]; exact hi)] at h0
      exact (hp 36 (List.mem_of_getElem? h0)).1 rfl
    · subst hi
      rw [List.append_assoc, List.getElem?_append_right (by rw [size_data]; omega), size_data, show s.size + 1 - s.size = 1 from by omega] at h1
      simp at h1
    · rcases Nat.lt_trichotomy i (s.size + 1) with hj | hj | hj
      · omega
      · subst hj
        rw [List.append_assoc, List.getElem?_append_right (by rw [size_data]; omega), size_data, show s.size + 1 - s.size = 1 from by omega] at h0
        simp at h0
      · rw [List.getElem?_append_right (by simp [size_data]; omega)] at h0
        exact (hp 36 (List.mem_of_getElem? h0)).1 rfl
  refine (gen_Put t n brN (Lib.decDigits n) TG (fun _ _ h hb => h.below hb) (by omega) (fun i W hi h hq => (no i hq).elim) (fun i hi hq => (no i hq).elim) (fun W h => itoaG n hn W h) (by omega) w hw).mono ?_
  rintro e w' ⟨he, hb⟩
  refine ⟨?_, hb⟩
  have h1 : putM brN (Lib.decDigits n) t.data.toList (t.size + 1) 0 [] = (s.data.toList ++ Lib.decDigits n ++ [46] ++ s.data.toList, 0) := by rw [← size_data, ht]; exact putM_mid hp
  rw [he, h1]
  rfl
end Go.Proofs.YtgalihmmlcnahaaDoor
