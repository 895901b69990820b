/-
  TokBrackets: brackets and line ends within them part words as blanks do.
-/
import Derived.Test.YtlgbdbaacjahpaaTokKn
import Derived.Test.YtlgbdbaacjahpaaTokBr
import Derived.Test.YtlgbdbaacjahpaaStrs
import Derived.BigQuiet
import Derived.Deep.QuietTactic
import Derived.IntWalk
namespace Go.Proofs.Ytlgbdbaacjahpaa
open Go.RowKit Go.Shelf
set_option maxRecDepth 20000
set_option linter.unusedVariables false

theorem strG_of (l : List UInt8) : ∃ s : ByteArray, s.data.toList = l ∧ s.size = l.length ∧ strV l = .string s := ⟨⟨l.toArray⟩, by simp, by show l.toArray.size = _; simp, rfl⟩
theorem mkG_size (l : List UInt8) : (⟨l.toArray⟩ : ByteArray).size = l.length := by show l.toArray.size = _; simp
theorem mkG_append (a b : List UInt8) : (⟨a.toArray⟩ : ByteArray) ++ ⟨b.toArray⟩ = ⟨(a ++ b).toArray⟩ := by
  have h : ∀ {a b : ByteArray}, a.data.toList = b.data.toList → a = b := by
    intro a b h; obtain ⟨⟨a⟩⟩ := a; obtain ⟨⟨b⟩⟩ := b; simp at h; rw [h]
  apply h; simp [ByteArray.data_append]
/-- A slice of bools as a law reads it. -/
def BoolsArg (W : World) (v : Value) (L : Nat) (B : Nat → Bool) : Prop := ∃ a c, v = .slice a L c ∧ L ≤ maxLen ∧ (L = 0 ∨ ∃ b off, a = some ⟨b, off, none⟩ ∧ b < W.heap.size ∧ ∀ j, j < L → W.cell? ⟨b, off + j, none⟩ = some (.bool (B j)))
theorem boolsArg_nil (W : World) : BoolsArg W (.slice none 0 0) 0 (fun _ => false) := ⟨none, 0, rfl, Nat.zero_le _, .inl rfl⟩
theorem boolsArg_row {W : World} {x : Addr} {l c : Nat} {B : Nat → Bool} (hl : l ≤ c) (hm : c ≤ maxLen) (hcell : ∀ i, i < c → W.cell? (x.add i) = some (.bool (B i))) : BoolsArg W (.slice (some x) l c) l B := by
  refine ⟨some x, c, rfl, by omega, ?_⟩
  by_cases h0 : l = 0
  · exact .inl h0
  · right
    obtain ⟨b, off, spot⟩ := x
    have hspot : spot = none := by simpa [Addr.add] using World.cell?_spot (hcell 0 (by omega))
    subst hspot
    have hb : b < W.heap.size := by
      have h := hcell 0 (by omega)
      simp only [Addr.add, if_true] at h
      unfold World.cell? at h
      rcases Nat.lt_or_ge b W.heap.size with h' | h'
      · exact h'
      · rw [Array.getElem?_eq_none h'] at h; simp at h
    refine ⟨b, off, rfl, hb, fun j hj => ?_⟩
    rw [← Go.WideShapes.add_plain]
    exact hcell j (by omega)
def bfB (L : Nat) (B : Nat → Bool) (i : Nat) : Bool := decide (i < L) && B i
def psB (L : Nat) (B : Nat → Bool) (l : List (List UInt8)) : List (List UInt8 × Bool) := l.zipIdx.map (fun p => (p.1, bfB L B p.2))
theorem psB_snoc (L : Nat) (B : Nat → Bool) (l : List (List UInt8)) (x : List UInt8) : psB L B (l ++ [x]) = psB L B l ++ [(x, bfB L B l.length)] := by
  unfold psB
  rw [List.zipIdx_append, List.map_append]
  simp
theorem psB_fst (L : Nat) (B : Nat → Bool) (l : List (List UInt8)) : (psB L B l).map (fun q => (q.1, false)) = l.map (fun w => (w, false)) := by
  unfold psB
  rw [List.map_map]
  conv => rhs; rw [← List.zipIdx_map_fst 0 l, List.map_map]
  rfl
theorem psB_plain {L : Nat} {B : Nat → Bool} {l : List (List UInt8)} (h : ∀ x ∈ l, PlainW x ∧ x.length ≤ 50) : ∀ q ∈ psB L B l, PlainW q.1 := by
  intro q hq
  obtain ⟨p, hp, rfl⟩ := List.mem_map.1 hq
  obtain ⟨x, i⟩ := p
  exact (h x (List.fst_mem_of_mem_zipIdx hp)).1
def txB (L : Nat) (B : Nat → Bool) (l : List (List UInt8)) : List UInt8 := 120 :: 32 :: 40 :: tB (psB L B l)
theorem txB_snoc (L : Nat) (B : Nat → Bool) (l : List (List UInt8)) (x : List UInt8) : txB L B (l ++ [x]) = txB L B l ++ (x ++ sepB (bfB L B l.length)) := by
  unfold txB
  rw [psB_snoc, tB_snoc]
  rfl
theorem tB_le : ∀ (l : List (List UInt8 × Bool)), (∀ q ∈ l, q.1.length ≤ 50) → (tB l).length ≤ 55 * l.length := by
  intro l
  induction l with
  | nil => intro _; simp [tB]
  | cons q l ih =>
    intro h
    have h1 := h q (by simp)
    have h2 := ih (fun x hx => h x (by simp [hx]))
    have h3 : (sepB q.2).length ≤ 5 := by unfold sepB; split <;> simp
    rw [tB, List.length_append, List.length_append, List.length_cons]
    omega
theorem txB_le (L : Nat) (B : Nat → Bool) (l : List (List UInt8)) (h : ∀ x ∈ l, PlainW x ∧ x.length ≤ 50) : (txB L B l).length ≤ 3 + 55 * l.length := by
  have := tB_le (psB L B l) (fun q hq => by
    obtain ⟨p, hp, rfl⟩ := List.mem_map.1 hq
    obtain ⟨x, i⟩ := p
    exact (h x (List.fst_mem_of_mem_zipIdx hp)).2)
  unfold txB
  have e : (psB L B l).length = l.length := by simp [psB]
  rw [e] at this
  simp only [List.length_cons]
  omega
theorem txB_ent (L : Nat) (B : Nat → Bool) (l : List (List UInt8)) (h : ∀ x ∈ l, PlainW x ∧ x.length ≤ 50) : ∃ m, entK (txB L B l ++ [41, 10, 122, 10]) = ([⟨1, false, ([120], false) :: l.map (fun w => (w, false))⟩, ⟨m, false, [([122], false)]⟩], 0, 0) := by
  obtain ⟨m, hm⟩ := br_ent (psB L B l) (psB_plain h)
  rw [psB_fst] at hm
  exact ⟨m, hm⟩
def BrR (L : Nat) (B : Nat → Bool) (xs : List (List UInt8)) (s : Value) (i : Nat) : Prop := s = .string ⟨(txB L B (xs.take i)).toArray⟩ ∧ (∀ x ∈ xs.take i, PlainW x ∧ x.length ≤ 50)
set_option maxRecDepth 100000 in
set_option maxHeartbeats 8000000 in
theorem law7_Brackets (v : Value) (xs : List (List UInt8)) (u : Value) (L : Nat) (B : Nat → Bool) (w : World) (hA : StrsArg w v xs) (hU : BoolsArg w u L B) : Calls Try.prog 5 #[v, u] w fun e w' => e = .returned (.bool true) ∧ Below w.heap.size w w' := by
  obtain ⟨hat, hn, hx⟩ := hA
  unfold maxLen at hn
  obtain ⟨a, c, rfl, hcells⟩ := hat
  obtain ⟨au, cu, rfl, hLm, hbools⟩ := hU
  unfold maxLen at hLm
  have HU := Lib.hid hbools
  clear hbools
  by_cases h30 : 30 < (xs.length : Int)
  · clear hcells hx
    generalize xs.length = n at *
    go_enter Try.func5, Try.ntmps5
    go_wp2_with (go_at_call 7; refine (law7_known _).mono ?_; rintro e w1 ⟨rfl, hb1⟩)
    go_ret
    exact ⟨rfl, hb1⟩
  have h30' : (xs.length : Int) ≤ 30 := by omega
  clear h30
  obtain ⟨n, hxn⟩ : ∃ n, xs.length = n := ⟨_, rfl⟩
  rw [hxn] at hn h30' ⊢
  have HXN := Lib.hid hxn; clear hxn
  by_cases h0 : n = 0
  · subst h0
    clear hcells hx
    go_enter Try.func5, Try.ntmps5
    go_wp2_with (go_at_call 7; refine (law7_known _).mono ?_; rintro e w1 ⟨rfl, hb1⟩)
    go_ret
    exact ⟨rfl, hb1⟩
  have hn0 : ((n : Int) == 0) = false := by simp; omega
  have hn1 : 0 < n := by omega
  obtain ⟨b, off, rfl, hb, hcells⟩ : ∃ b off, a = some ⟨b, off, none⟩ ∧ b < w.heap.size ∧ ∀ j (hj : j < xs.length), w.cell? ⟨b, off + j, none⟩ = some (strV xs[j]) := by
    rcases hcells with e | h
    · subst e
      have := HXN.out
      simp at this
      omega
    · exact h
  have HC := Lib.hid hcells
  have HX := Lib.hid hx
  clear hcells h0 hx
  go_enter Try.func5, Try.ntmps5
  go_wp2_with (go_at_call 7; refine (law7_known _).mono ?_; rintro e w1 ⟨rfl, hb1⟩)
  go_loop [5, 6] (fun s i => ∃ k : Nat, i = .int .i64 k ∧ k ≤ n ∧ BrR L B xs s k) (fun _ i => n - (intOf i).toNat)
  case atStart => exact ⟨0, rfl, Nat.zero_le _, rfl, by simp⟩
  case round =>
    obtain ⟨k, rfl, hk, rfl, HL0⟩ := hrel
    have HL := Lib.hid HL0
    clear HL0
    by_cases hlt : k < n
    · have hkx : k < xs.length := by rw [HXN.out]; exact hlt
      obtain ⟨sk, hsk0, hskz0, hskv0⟩ := strG_of xs[k]
      have HSK := Lib.hid (And.intro hsk0 (And.intro hskz0 hskv0)); clear hsk0 hskz0 hskv0
      have hck : w1.cell? ⟨b, off + k, none⟩ = some (.string sk) := by rw [← HSK.out.2.2]; exact (hb1.cell (p := ⟨b, off + k, none⟩) hb).trans (HC.out k hkx)
      have hskm : sk.size ≤ 9223372036854775807 := by have := HX.out xs[k] (List.getElem_mem hkx); have := HSK.out.2.1; unfold maxLen at *; omega
      have hlti : (k : Int) < (n : Int) := by omega
      by_cases h50 : 50 < (sk.size : Int)
      · go_wp2
        go_ret
        exact ⟨rfl, hb1⟩
      have h50' : (sk.size : Int) ≤ 50 := by omega
      clear h50
      by_cases hz : sk.toList = []
      · have hze : sk.toList.isEmpty = true := by rw [hz]; rfl
        go_wp2
        go_ret
        exact ⟨rfl, hb1⟩
      have hze : sk.toList.isEmpty = false := by simpa using hz
      go_wp2
      go_loop [7] (fun j => ∃ t : Nat, j = .int .i64 t ∧ t ≤ sk.size ∧ Hid (∀ d ∈ sk.data.toList.take t, PlainC d)) (fun j => sk.size - (intOf j).toNat)
      case atStart => exact ⟨0, rfl, Nat.zero_le _, Lib.hid (by simp)⟩
      case round =>
        obtain ⟨t, rfl, ht, HT⟩ := hrel
        by_cases htl : t < sk.size
        · obtain ⟨d, hdv⟩ : ∃ d, sk[t]'htl = d := ⟨_, rfl⟩
          have hti : (t : Int) < (sk.size : Int) := by omega
          have HC : Hid (sk.data.toList.take (t + 1) = sk.data.toList.take t ++ [d]) := Lib.hid (by rw [List.take_succ_eq_append_getElem (by simpa using htl), ← hdv]; rfl)
          by_cases h0 : (d.toNat : Int) ≤ 32
          · go_wp2
            go_ret
            exact ⟨rfl, hb1⟩
          have h0' : 32 < (d.toNat : Int) := by omega
          clear h0
          by_cases h1 : d = 34
          · subst h1
            go_wp2
            go_ret
            exact ⟨rfl, hb1⟩
          by_cases h2 : d = 40
          · subst h2
            go_wp2
            go_ret
            exact ⟨rfl, hb1⟩
          by_cases h3 : d = 41
          · subst h3
            go_wp2
            go_ret
            exact ⟨rfl, hb1⟩
          by_cases h4 : d = 59
          · subst h4
            go_wp2
            go_ret
            exact ⟨rfl, hb1⟩
          by_cases h5 : d = 92
          · subst h5
            go_wp2
            go_ret
            exact ⟨rfl, hb1⟩
          have z1 := c_ne h1 34 rfl
          have z2 := c_ne h2 40 rfl
          have z3 := c_ne h3 41 rfl
          have z4 := c_ne h4 59 rfl
          have z5 := c_ne h5 92 rfl
          have HP := Lib.hid (plainC_of (c := d) (by omega) h1 h2 h3 h4 h5)
          clear h1 h2 h3 h4 h5
          go_wp2
          go_round
          case rel => exact ⟨t + 1, by go_num, by omega, Lib.hid (by rw [HC.out]; intro x hx; rcases List.mem_append.1 hx with h | h; exact HT.out x h; obtain rfl := List.mem_singleton.1 h; exact HP.out)⟩
          case measure => simp [intOf]; omega
        · obtain rfl : t = sk.size := by omega
          have HP : Hid (PlainW xs[k] ∧ xs[k].length ≤ 50) := Lib.hid (by
            have h1 := HSK.out.1
            have h2 := HSK.out.2.1
            refine ⟨⟨?_, fun d hd => HT.out d ?_⟩, by omega⟩
            · intro e
              rw [e] at h1
              exact hz (by rw [toList_data, h1])
            · rw [List.take_of_length_le (by simp), h1]; exact hd)
          have htake : xs.take (k + 1) = xs.take k ++ [xs[k]] := List.take_succ_eq_append_getElem hkx
          have hlen := txB_le L B (xs.take k) HL.out
          have hl2 : (xs.take k).length ≤ k := List.length_take_le _ _
          have hl3 : (xs.take k).length = k := by rw [List.length_take]; omega
          have HS2 : Hid (txB L B (xs.take (k + 1)) = txB L B (xs.take k) ++ (xs[k] ++ sepB (bfB L B k))) := Lib.hid (by rw [htake, txB_snoc, hl3])
          have HL2 : Hid (∀ x ∈ xs.take (k + 1), PlainW x ∧ x.length ≤ 50) := Lib.hid (by rw [htake]; intro x hx; rcases List.mem_append.1 hx with h | h; exact HL.out x h; obtain rfl := List.mem_singleton.1 h; exact HP.out)
          have hsk2 : sk = ⟨xs[k].toArray⟩ := by
            have h := HSK.out.2.2
            unfold strV at h
            injection h with h
            exact h.symm
          obtain ⟨S, hS⟩ : ∃ S, txB L B (xs.take k) = S := ⟨_, rfl⟩
          rw [hS] at hlen HS2 ⊢
          have hS50 : S.length ≤ 3000 := by omega
          have hx50 : xs[k].length ≤ 50 := HP.out.2
          have a1 := run_string_add_sum (P := Try.prog) w1 ⟨S.toArray⟩ sk (by rw [mkG_size]; omega)
          have e1 : (⟨S.toArray⟩ : ByteArray) ++ sk = ⟨(S ++ xs[k]).toArray⟩ := by rw [hsk2]; exact mkG_append _ _
          rw [e1] at a1
          generalize xs[k] = X at *
          have a2 := run_string_add_sum (P := Try.prog) w1 ⟨(S ++ X).toArray⟩ ⟨#[32, 59, 32, 121, 10]⟩ (by rw [mkG_size, List.length_append]; show _ + 5 ≤ _; omega)
          have a3 := run_string_add_sum (P := Try.prog) w1 ⟨(S ++ X).toArray⟩ ⟨#[32]⟩ (by rw [mkG_size, List.length_append]; show _ + 1 ≤ _; omega)
          have e2 : (⟨(S ++ X).toArray⟩ : ByteArray) ++ ⟨#[32, 59, 32, 121, 10]⟩ = ⟨(S ++ X ++ [32, 59, 32, 121, 10]).toArray⟩ := mkG_append _ [32, 59, 32, 121, 10]
          have e3 : (⟨(S ++ X).toArray⟩ : ByteArray) ++ ⟨#[32]⟩ = ⟨(S ++ X ++ [32]).toArray⟩ := mkG_append _ [32]
          rw [e2] at a2
          rw [e3] at a3
          clear e1 e2 e3 htake hlen hl2 hl3 hS hsk2 HSK HT HP hx50 hS50
          by_cases hkL : k < L
          · have hkLi : (k : Int) < (L : Int) := by omega
            obtain ⟨bu, offu, rfl, hbu, hcu⟩ : ∃ b off, au = some ⟨b, off, none⟩ ∧ b < w.heap.size ∧ ∀ j, j < L → w.cell? ⟨b, off + j, none⟩ = some (.bool (B j)) := by
              rcases HU.out with h | h
              · omega
              · exact h
            have hcb := (hb1.cell (p := ⟨bu, offu + k, none⟩) hbu).trans (hcu k hkL)
            have HBF : Hid (bfB L B k = B k) := Lib.hid (by unfold bfB; rw [decide_eq_true hkL]; rfl)
            generalize B k = bk at *
            clear hcu hkL
            cases bk
            · go_wp2
              go_round
              case rel => exact ⟨k + 1, by go_num, by omega, by rw [HS2.out, HBF.out]; simp [sepB], HL2.out⟩
              case measure => simp [intOf]; omega
            · go_wp2
              go_round
              case rel => exact ⟨k + 1, by go_num, by omega, by rw [HS2.out, HBF.out]; simp [sepB], HL2.out⟩
              case measure => simp [intOf]; omega
          · have hkLi : ¬ ((k : Int) < (L : Int)) := by omega
            have HBF : Hid (bfB L B k = false) := Lib.hid (by unfold bfB; rw [decide_eq_false hkL]; rfl)
            clear hkL
            go_wp2
            go_round
            case rel => exact ⟨k + 1, by go_num, by omega, by rw [HS2.out, HBF.out]; simp [sepB], HL2.out⟩
            case measure => simp [intOf]; omega
    · obtain rfl : k = n := by omega
      have hall : xs.take k = xs := List.take_of_length_le (by rw [HXN.out]; exact Nat.le_refl _)
      have hL := HL.out
      rw [hall] at hL ⊢
      have hlen := txB_le L B xs hL
      obtain ⟨m, hent⟩ := txB_ent L B xs hL
      rw [HXN.out] at hlen
      have HL2 := Lib.hid hL
      clear HL hL hall
      obtain ⟨S, hS⟩ : ∃ S, txB L B xs = S := ⟨_, rfl⟩
      rw [hS] at hlen hent ⊢
      have a4 := run_string_add_sum (P := Try.prog) w1 ⟨S.toArray⟩ ⟨#[41, 10, 122, 10]⟩ (by rw [mkG_size]; show _ + 4 ≤ _; omega)
      have e4 : (⟨S.toArray⟩ : ByteArray) ++ ⟨#[41, 10, 122, 10]⟩ = ⟨(S ++ [41, 10, 122, 10]).toArray⟩ := mkG_append _ [41, 10, 122, 10]
      rw [e4] at a4
      have hP := fun W => kn_Entries ⟨(S ++ [41, 10, 122, 10]).toArray⟩ (S ++ [41, 10, 122, 10]) _ (by simp) hent W (by rw [mkG_size, List.length_append]; show _ + 4 ≤ _; omega)
      clear hent hlen e4 hS
      generalize (⟨(S ++ [41, 10, 122, 10]).toArray⟩ : ByteArray) = S2 at *
      go_wp2_with fail
      refine (hP _).mono ?_
      rintro e w2 ⟨a2, c2, rfl, E, hb2⟩
      have HB := Lib.hid (hb1.trans (hb2.mono hb1.size))
      clear hP hb2 a4
      obtain ⟨a2', c2', e, h⟩ := E
      cases e
      rcases h with h | ⟨g, rfl, hg, hc⟩
      · cases h
      obtain ⟨aw, cw, p0, p1, p2, hw⟩ := hc 0 (by simp)
      obtain ⟨av, cv, q0, q1, q2, hv⟩ := hc 1 (by simp)
      rcases hw with h | ⟨gw, rfl, hgw, hcw⟩
      · cases h
      rcases hv with h | ⟨gv, rfl, hgv, hcv⟩
      · cases h
      have r4 : w2.cell? ⟨gv, 0, none⟩ = some (.string ⟨#[122]⟩) := (hcv 0 (by simp)).1
      have p0' : w2.cell? ⟨g, 0, none⟩ = some (.int .i64 1) := p0
      have p1' : w2.cell? ⟨g, 1, none⟩ = some (.bool false) := p1
      have p2' : w2.cell? ⟨g, 2, none⟩ = some (.slice (some ⟨gw, 0, none⟩) (k + 1) cw) := by
        have h := p2
        have e : (([120], false) :: xs.map (fun w => (w, false)) : List TW).length = k + 1 := by rw [List.length_cons, List.length_map, HXN.out]
        rw [show ([⟨1, false, ([120], false) :: xs.map (fun w => (w, false))⟩, ⟨m, false, [([122], false)]⟩] : List Ent)[0].words = ([120], false) :: xs.map (fun w => (w, false)) from rfl, e] at h
        exact h
      have q2' : w2.cell? ⟨g, 5, none⟩ = some (.slice (some ⟨gv, 0, none⟩) 1 cv) := q2
      have HCW : Hid (∀ i (hi : i < xs.length), w2.cell? ⟨gw, (i + 1) * 2, none⟩ = some (strV xs[i])) := Lib.hid (fun i hi => by
        have h := (hcw (i + 1) (by show i + 1 < (([120], false) :: xs.map (fun w => (w, false)) : List TW).length; simpa using hi)).1
        have e : ([⟨1, false, ([120], false) :: xs.map (fun w => (w, false))⟩, ⟨m, false, [([122], false)]⟩] : List Ent)[0].words = ([120], false) :: xs.map (fun w => (w, false)) := rfl
        simp only [e, List.getElem_cons_succ, List.getElem_map] at h
        exact h)
      clear p0 p1 p2 q0 q1 q2 hcw hcv hc
      have wk1 : (((k + 1 : Nat) : Int) != (k : Int) + 1) = false := by simp
      go_wp2_with fail
      go_loopw [12] (fun i wr => ∃ i' : Nat, i = .int .i64 i' ∧ i' ≤ k ∧ Below w.heap.size w wr ∧ Below w2.heap.size w2 wr) (fun i _ => k - (intOf i).toNat)
      case atStart => exact ⟨0, rfl, Nat.zero_le _, HB.out, Below.refl _ _⟩
      case round =>
        obtain ⟨i, rfl, hi, hbr, hbr2⟩ := hrel
        replace r4 := (hbr2.cell (p := ⟨gv, 0, none⟩) hgv).trans r4
        replace p0' := (hbr2.cell (p := ⟨g, 0, none⟩) hg).trans p0'
        replace p1' := (hbr2.cell (p := ⟨g, 1, none⟩) hg).trans p1'
        replace p2' := (hbr2.cell (p := ⟨g, 2, none⟩) hg).trans p2'
        replace q2' := (hbr2.cell (p := ⟨g, 5, none⟩) hg).trans q2'
        by_cases hik : i < k
        · have hix : i < xs.length := by rw [HXN.out]; exact hik
          obtain ⟨sk, hsk0, hskz0, hskv0⟩ := strG_of xs[i]
          have hck : wr.cell? ⟨b, off + i, none⟩ = some (.string sk) := by rw [← hskv0]; exact (hbr.cell (p := ⟨b, off + i, none⟩) hb).trans (HC.out i hix)
          have hcs : wr.cell? ⟨gw, (i + 1) * 2, none⟩ = some (.string sk) := by rw [← hskv0]; exact (hbr2.cell (p := ⟨gw, (i + 1) * 2, none⟩) hgw).trans (HCW.out i hix)
          have hik' : (i : Int) < (k : Int) := by omega
          have hik2 : (i : Int) + 1 < ((k + 1 : Nat) : Int) := by omega
          have hi0 : (0 : Int) ≤ (i : Int) + 1 := by omega
          have wi : IntKind.i64.wrap ((i : Int) + 1) = (i : Int) + 1 := IntWalk.i64_in _ (by omega)
          have hti : ((i : Int) + 1).toNat = i + 1 := by omega
          have HBR := Lib.hid hbr; have HBR2 := Lib.hid hbr2
          clear hbr hbr2 hg hgw hb hgv hskv0 hskz0 hsk0 p0' p1' q2' r4
          go_wp2
          go_quiet (fail)
          go_wp2
          go_roundw
          case rel => exact ⟨i + 1, by go_num, by omega, HBR.out.trans ⟨rfl, rfl, rfl, Nat.le_refl _, fun _ _ => rfl⟩, HBR2.out.trans ⟨rfl, rfl, rfl, Nat.le_refl _, fun _ _ => rfl⟩⟩
          case measure => simp [intOf]; omega
        · obtain rfl : i = k := by omega
          go_wp2
          go_ret
          exact ⟨rfl, hbr⟩
end Go.Proofs.Ytlgbdbaacjahpaa
