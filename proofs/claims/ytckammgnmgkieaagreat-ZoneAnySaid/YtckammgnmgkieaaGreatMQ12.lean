/-
  The document's names in the same spelling as package name's (XNamX); the statements' helpers.
-/
import Derived.Test.YtckammgnmgkieaaGreatMQ34
import Derived.Test.YtckammgnmgkieaaGreatMQ28
import Derived.Test.YtckammgnmgkieaaGreatMQ16
import Derived.Test.YtckammgnmgkieaaGreatMQ25
import Derived.Test.YtckammgnmgkieaaGreatMQ18
import Derived.Test.YtckammgnmgkieaaGreatMQ15
import Derived.Test.YtckammgnmgkieaaGreatMQ27
import Derived.Lib.Repeat
import Derived.Deep.RegionHeld3
import Derived.Deep.AppendLies
import Derived.Outline
import Derived.IntWalk
import Derived.Lib.AppendIntMem
import Derived.Lib.ItoaMem
import Derived.Lib.AppendStr
import Derived.StillTailTactics
namespace Go.Proofs.YtckammgnmgkieaaGreat
set_option maxRecDepth 20000
open Go.RowKit Go.Shelf

theorem kn_RUnder (v u : Value) (n z : Nm) (r : Bool) (h : underN n z = r) (w : World) (hA : NmAt w v n) (hU : NmAt w u z) (h1 : NmOK n) (h2 : NmOK z) :
    Calls Tryz.prog 73 #[v, u] w fun e w' => e = .returned (.bool r) ∧ Below w.heap.size w w' := by
  subst h; exact ref_Under v u n z w hA hU.1 h1 h2
theorem kn_RSame (v u : Value) (n z : Nm) (r : Bool) (h : sameN n z = r) (w : World) (hA : NmAt w v n) (hU : NmAt w u z) (h1 : NmOK n) (h2 : NmOK z) :
    Calls Tryz.prog 55 #[v, u] w fun e w' => e = .returned (.bool r) ∧ Below w.heap.size w w' := by
  subst h; exact ref_Same v u n z w hA.1 hU.1 h1 h2
theorem kn_RCompare (v u : Value) (n z : Nm) (r : Int) (h : compareN n z = r) (w : World) (hA : NmAt w v n) (hU : NmAt w u z) (h1 : NmOK n) (h2 : NmOK z) :
    Calls Tryz.prog 155 #[v, u] w fun e w' => e = .returned (.int .i64 r) ∧ Below w.heap.size w w' := by
  subst h; exact ref_Compare v u n z w hA.1 hU.1 h1 h2
theorem kn_RChild (s : ByteArray) (v : Value) (n l : Nm) (k : Nat) (h : s.data.toList :: n = l) (hk : l.length = k) (w : World) (hA : NmAt w v n) (h1 : NmOK n) :
    Calls Tryz.prog 76 #[.string s, v] w (NmRes l k w) := by
  subst h; refine (ref_Child s v n w hA h1).mono ?_
  rintro e w' ⟨v', rfl, ho, hb⟩; exact nmRes_of hk ho hb
theorem kn_RCheck (v : Value) (n : Nm) (r : Int) (h : checkN n = r) (w : World) (hA : NmAt w v n) (h1 : NmOK n) :
    Calls Tryz.prog 68 #[v] w fun e w' => e = .returned (.int .i64 r) ∧ Below w.heap.size w w' := by
  subst h; refine (ref_CheckName v n w hA.1 h1).mono ?_
  rintro e w' ⟨rfl, rfl⟩; exact ⟨rfl, Below.refl _ _⟩
def NmArg (W : World) (v : Value) (xs : Nm) : Prop := NmAt W v xs ∧ xs.length ≤ maxLen ∧ ∀ x ∈ xs, x.length ≤ maxLen
theorem nmArg_nil (W : World) : NmArg W (.slice none 0 0) [] := ⟨nm_nil W, Nat.zero_le _, by simp⟩
theorem nmArg_row {W : World} {x : Addr} {l c : Nat} {zs : List ByteArray} (hl : l ≤ c) (hm : c ≤ maxLen) (hz : zs.length = c)
    (hcell : ∀ i, i < zs.length → W.cell? (x.add i) = some (.string (zs.getD i ByteArray.empty))) (hws : ∀ s ∈ zs, s.size ≤ maxLen) :
    NmArg W (.slice (some x) l c) ((zs.take l).map (·.data.toList)) := by
  have h := strsArg_row hl hm hz hcell hws
  exact ⟨⟨h.1, _, _, _, rfl, hl, fun e => by cases e⟩, h.2⟩
theorem kn_Few (v : Value) (n : Nm) (r : Bool) (h : fewN n = r) (w0 w : World) (hA : NmArg w0 v n) (hA2 : NmAt w v n) :
    Calls Tryz.prog 13 #[v] w fun e w' => e = .returned (.bool r) ∧ Below w.heap.size w w' := by
  subst h; refine (law2_Few v n w hA2.1 hA.2.1 hA.2.2).mono ?_
  rintro e w' ⟨rfl, rfl⟩; exact ⟨rfl, Below.refl _ _⟩
theorem kn_Good (v : Value) (n : Nm) (r : Bool) (h : goodN n = r) (w0 w : World) (hA : NmArg w0 v n) (hA2 : NmAt w v n) :
    Calls Tryz.prog 27 #[v] w fun e w' => e = .returned (.bool r) ∧ Below w.heap.size w w' := by
  subst h; refine (law2_Good v n w hA2.1 hA.2.1 hA.2.2).mono ?_
  rintro e w' ⟨rfl, rfl⟩; exact ⟨rfl, Below.refl _ _⟩
theorem kn_Is (v u : Value) (n z : Nm) (r : Bool) (h : decide (n = z) = r) (w : World) (hA : NmAt w v n) (hU : NmAt w u z) (h1 : NmOK n) :
    Calls Tryz.prog 20 #[v, u] w fun e w' => e = .returned (.bool r) ∧ Below w.heap.size w w' := by
  subst h; exact law2_Is v u n z w hA.1 hU.1 (by have := h1.1; omega)

end Go.Proofs.YtckammgnmgkieaaGreat

/-
  The law's Few for data.
-/
namespace Go.Proofs.YtckammgnmgkieaaGreat
set_option maxRecDepth 20000
open Go.RowKit Go.Shelf

def fewD (d : Dat) : Bool := decide (d.names.length ≤ 8 ∧ d.nums.length ≤ 12 ∧ d.texts.length ≤ 40 ∧ d.raw.length ≤ 1100) && (decide (∀ n ∈ d.names, fewN n = true) && decide (∀ x ∈ d.texts, x.length ≤ 300))
def DatArg (W : World) (v : Value) (d : Dat) : Prop := DatAt W v d ∧ (-(2 ^ 63) ≤ d.ty ∧ d.ty < 2 ^ 63) ∧ (∀ n ∈ d.names, n.length ≤ maxLen ∧ ∀ x ∈ n, x.length ≤ maxLen) ∧ (∀ n ∈ d.nums, n < 2 ^ 32) ∧ (∀ x ∈ d.texts, x.length ≤ maxLen)

theorem fewD_ok {W : World} {v : Value} {d : Dat} (h : DatArg W v d) (hf : fewD d = true) : DatOK d := by
  simp only [fewD, Bool.and_eq_true, decide_eq_true_eq] at hf
  obtain ⟨⟨f1, f2, f3, f4⟩, f5, f6⟩ := hf
  exact ⟨h.2.1, by omega, fun n hn => fewN_ok (f5 n hn), by omega, h.2.2.2.1, ⟨by omega, fun x hx => by have := f6 x hx; omega⟩, by omega⟩
end Go.Proofs.YtckammgnmgkieaaGreat

/-
  The law's Few for data: the walk.
-/
namespace Go.Proofs.YtckammgnmgkieaaGreat
set_option maxRecDepth 20000
open Go.RowKit Go.Shelf

theorem SlAt.cell {W W' : World} {a : Option Addr} {n c : Nat} {xs : List Value} (h : SlAt W (.slice a n c) xs) (hb : Below W.heap.size W W') (j : Nat) (hj : j < xs.length) :
    ∃ b off, a = some ⟨b, off, none⟩ ∧ b < W.heap.size ∧ W'.cell? ⟨b, off + j, none⟩ = some xs[j] := by
  obtain ⟨a', c', e, _, _, hx⟩ := h
  cases e
  rcases hx with e | ⟨b, off, ea, hlt, hc⟩
  · subst e; simp at hj
  · exact ⟨b, off, ea, hlt, (hb.cell (p := ⟨b, off + j, none⟩) hlt).trans (hc j hj)⟩

set_option maxRecDepth 100000 in
set_option maxHeartbeats 8000000 in
theorem law4_Few (v : Value) (d : Dat) (w : World) (hA : DatArg w v d) :
    Calls Tryz.prog 59 #[v] w fun e w' => e = .returned (.bool (fewD d)) ∧ Below w.heap.size w w' := by
  obtain ⟨⟨vn, vu, vt, vr, rfl, a1, a2, a3, a4⟩, _, hN, _, hT⟩ := hA
  obtain ⟨vs, s1, sl, s2⟩ := a1
  obtain ⟨an, cn, rfl, x1⟩ := id s1
  obtain ⟨au, cu, rfl, x2⟩ := a2
  obtain ⟨ax, ct, rfl, x3⟩ := id a3.1
  obtain ⟨ar, cr, rfl, x4⟩ := a4
  clear x1 x2 x3 x4
  rw [List.length_map, List.length_map]
  obtain ⟨n1, e1⟩ : ∃ n, vs.length = n := ⟨_, rfl⟩
  obtain ⟨n2, e2⟩ : ∃ n, d.nums.length = n := ⟨_, rfl⟩
  obtain ⟨n3, e3⟩ : ∃ n, d.texts.length = n := ⟨_, rfl⟩
  obtain ⟨n4, e4⟩ : ∃ n, d.raw.length = n := ⟨_, rfl⟩
  have hbig : ¬ (n1 ≤ 8 ∧ n2 ≤ 12 ∧ n3 ≤ 40 ∧ n4 ≤ 1100) → fewD d = false := by
    intro h
    unfold fewD
    rw [decide_eq_false (by rw [← sl, e1, e2, e3, e4]; exact h)]; rfl
  have hb0 : ∀ o, Below w.heap.size w (w.alloc o) := fun o => (Below.refl _ w).alloc (Nat.le_refl _) o
  have hcn := fun o j (hj : j < vs.length) => s1.cell (hb0 o) j hj
  have hst : ∀ o j (h1 : j < vs.length) (h2 : j < d.names.length), StrsAt (w.alloc o) vs[j] d.names[j] := fun o j h1 _ => ((s2 j h1).below (hb0 o)).1
  have hct := fun o j hj => a3.1.cell (hb0 o) j hj
  have n0 := new_at w [.int .i64 d.ty, .slice an vs.length cn, .slice au n2 cu, .slice ax n3 ct, .slice ar n4 cr] 101
  rw [e2, e3, e4]
  rw [e1] at n0 ⊢
  have f1 := n0 1 _ rfl; have f2 := n0 2 _ rfl; have f3 := n0 3 _ rfl; have f4 := n0 4 _ rfl
  have E1 := Lib.hid e1; have E3 := Lib.hid e3; have SL := Lib.hid sl; have HB0 := Lib.hid hb0
  have E24 := Lib.hid (And.intro e2 e4)
  clear n0 s1 s2 a3 e1 e2 e3 e4 sl hb0
  by_cases c1 : 8 < (n1 : Int)
  · have H0 : Hid (fewD d = false) := Lib.hid (hbig (by omega))
    clear hbig hcn hst hct hN hT
    go_enter Tryz.func59, Tryz.ntmps59
    go_wp2
    go_ret
    exact ⟨by rw [H0.out]; rfl, HB0.out _⟩
  by_cases c2 : 12 < (n2 : Int)
  · have H0 : Hid (fewD d = false) := Lib.hid (hbig (by omega))
    clear hbig hcn hst hct hN hT
    go_enter Tryz.func59, Tryz.ntmps59
    go_wp2
    go_ret
    exact ⟨by rw [H0.out]; rfl, HB0.out _⟩
  by_cases c3 : 40 < (n3 : Int)
  · have H0 : Hid (fewD d = false) := Lib.hid (hbig (by omega))
    clear hbig hcn hst hct hN hT
    go_enter Tryz.func59, Tryz.ntmps59
    go_wp2
    go_ret
    exact ⟨by rw [H0.out]; rfl, HB0.out _⟩
  by_cases c4 : 1100 < (n4 : Int)
  · have H0 : Hid (fewD d = false) := Lib.hid (hbig (by omega))
    clear hbig hcn hst hct hN hT
    go_enter Tryz.func59, Tryz.ntmps59
    go_wp2
    go_ret
    exact ⟨by rw [H0.out]; rfl, HB0.out _⟩
  have hC := fun j h1 => hcn (.cells #[.int .i64 d.ty, .slice an n1 cn, .slice au n2 cu, .slice ax n3 ct, .slice ar n4 cr] 101) j h1
  have hS := hst (.cells #[.int .i64 d.ty, .slice an n1 cn, .slice au n2 cu, .slice ax n3 ct, .slice ar n4 cr] 101)
  have hT2 := hct (.cells #[.int .i64 d.ty, .slice an n1 cn, .slice au n2 cu, .slice ax n3 ct, .slice ar n4 cr] 101)
  have hB1 := Lib.hid (HB0.out (.cells #[.int .i64 d.ty, .slice an n1 cn, .slice au n2 cu, .slice ax n3 ct, .slice ar n4 cr] 101))
  clear hcn hst hct hbig HB0
  go_enter Tryz.func59, Tryz.ntmps59
  go_wp2
  generalize w.alloc (.cells #[.int .i64 d.ty, .slice an n1 cn, .slice au n2 cu, .slice ax n3 ct, .slice ar n4 cr] 101) = W0 at *
  have HFF : Hid (∀ (k : Nat) (h : k < d.names.length), fewN d.names[k] = false → fewD d = false) := Lib.hid (fun k h e => by
    unfold fewD
    rw [decide_eq_false (p := ∀ n ∈ d.names, fewN n = true) (fun hh => by have := hh _ (List.getElem_mem h); rw [e] at this; cases this)]
    simp)
  have HFT : Hid (∀ (k : Nat) (h : k < d.texts.length), 300 < d.texts[k].length → fewD d = false) := Lib.hid (fun k h e => by
    unfold fewD
    rw [decide_eq_false (p := ∀ x ∈ d.texts, x.length ≤ 300) (fun hh => by have := hh _ (List.getElem_mem h); omega)]
    simp)
  have HFO : Hid ((∀ n ∈ d.names, fewN n = true) → (∀ x ∈ d.texts, x.length ≤ 300) → fewD d = true) := Lib.hid (fun h1 h2 => by
    unfold fewD
    rw [decide_eq_true h1, decide_eq_true h2, decide_eq_true]
    · rfl
    · have := E24.out; have := E3.out; have := SL.out; have := E1.out; omega)
  go_loopw [3] (fun i wr => ∃ k : Nat, i = .int .i64 k ∧ k ≤ n1 ∧ Hid (∀ n ∈ d.names.take k, fewN n = true) ∧ W0 = wr) (fun i _ => n1 - (intOf i).toNat)
  case atStart => exact ⟨0, rfl, Nat.zero_le _, Lib.hid (by simp), by first | rfl | trivial⟩
  case round =>
    obtain ⟨k, rfl, hk, HC, rfl⟩ := hrel
    by_cases hlt : k < n1
    · have hkv : k < vs.length := by rw [E1.out]; exact hlt
      have hkd : k < d.names.length := by rw [← SL.out]; exact hkv
      obtain ⟨g, off, rfl, hg, hc⟩ := hC k hkv
      have hNk := hN _ (List.getElem_mem hkd)
      have hF := law2_Few _ _ W0 (hS k hkv hkd) hNk.1 hNk.2
      have HT := Lib.hid (show fewN d.names[k] = true → ∀ n ∈ d.names.take (k + 1), fewN n = true from fun e n hn => by
        rw [List.take_succ_eq_append_getElem hkd] at hn
        rcases List.mem_append.1 hn with hn | hn
        · exact HC.out n hn
        · rw [List.mem_singleton.1 hn]; exact e)
      have HF0 := Lib.hid (HFF.out k hkd)
      clear hC hS hNk hT2 hN hT
      generalize vs[k] = sv at *
      generalize fewN d.names[k] = q at *
      cases q with
      | false =>
        have H0 : Hid (fewD d = false) := Lib.hid (HF0.out rfl)
        go_wp2_with (go_at_call 13; refine hF.mono ?_; rintro e w2 ⟨rfl, rfl⟩)
        go_ret
        exact ⟨by rw [H0.out]; rfl, hB1.out⟩
      | true =>
        go_wp2_with (go_at_call 13; refine hF.mono ?_; rintro e w2 ⟨rfl, rfl⟩)
        go_roundw
        case rel => exact ⟨k + 1, by go_num, by omega, Lib.hid (by first | exact HT.out rfl | exact HT.out trivial), by first | rfl | trivial⟩
        case measure => simp [intOf]; omega
    · obtain rfl : k = n1 := by omega
      have HN1 : Hid (∀ n ∈ d.names, fewN n = true) := Lib.hid (by
        have e := HC.out
        rw [List.take_of_length_le (by have := SL.out; have := E1.out; omega)] at e
        exact e)
      clear hC hS hN HC
      go_wp2
      go_loopw [4] (fun i wr => ∃ j : Nat, i = .int .i64 j ∧ j ≤ n3 ∧ Hid (∀ x ∈ d.texts.take j, x.length ≤ 300) ∧ W0 = wr) (fun i _ => n3 - (intOf i).toNat)
      case atStart => exact ⟨0, rfl, Nat.zero_le _, Lib.hid (by simp), by first | rfl | trivial⟩
      case round =>
        obtain ⟨j, rfl, hj, HC, rfl⟩ := hrel
        by_cases hlt2 : j < n3
        · have hjt : j < d.texts.length := by rw [E3.out]; exact hlt2
          obtain ⟨g, off, rfl, hg, hc⟩ := hT2 j hjt
          obtain ⟨s, hs0, hsz, hsv⟩ := str_of d.texts[j]
          rw [hsv] at hc
          have hxk := hT _ (List.getElem_mem hjt)
          unfold maxLen at hxk
          rw [← hsz] at hxk
          by_cases hb : 300 < (s.size : Int)
          · have H0 : Hid (fewD d = false) := Lib.hid (HFT.out j hjt (by omega))
            clear hs0 hsz hsv hT2 hT
            go_wp2
            go_ret
            exact ⟨by rw [H0.out]; rfl, hB1.out⟩
          · have HT : Hid (∀ x ∈ d.texts.take (j + 1), x.length ≤ 300) := Lib.hid (fun n hn => by
              rw [List.take_succ_eq_append_getElem hjt] at hn
              rcases List.mem_append.1 hn with hn | hn
              · exact HC.out n hn
              · rw [List.mem_singleton.1 hn]; omega)
            clear hs0 hsz hsv hT2 hT
            go_wp2
            go_roundw
            case rel => exact ⟨j + 1, by go_num, by omega, HT, by first | rfl | trivial⟩
            case measure => simp [intOf]; omega
        · obtain rfl : j = n3 := by omega
          have H0 : Hid (fewD d = true) := Lib.hid (HFO.out HN1.out (by
            have e := HC.out
            rw [List.take_of_length_le (by have := E3.out; omega)] at e
            exact e))
          clear hT2 hT
          go_wp2
          go_ret
          exact ⟨by rw [H0.out]; rfl, hB1.out⟩
end Go.Proofs.YtckammgnmgkieaaGreat

/-
  rdata.form, rdata.readHalves.
-/
namespace Go.Proofs.YtckammgnmgkieaaGreat
set_option maxRecDepth 20000
open Go.RowKit Go.Shelf

theorem OwnG.ne_block {α : Type} {T : TypeId} {enc : α → Value} {W : World} {base : Nat} {v : Value} {xs : List α} (h : OwnG T enc W base v xs) {B : Nat} {cs : Array Value} {t : TypeId} (hB : W.heap[B]? = some (.cells cs t)) (ht : t ≠ T) : some B ≠ v.ownBlock := by
  rcases h.2 with ⟨rfl, _⟩ | ⟨g, cap, cur, rfl, _, hg, _⟩
  · simp [Value.ownBlock]
  · intro e
    obtain rfl : B = g := by simpa [Value.ownBlock] using e
    rw [hg] at hB
    cases hB
    exact ht rfl
theorem block_new (W : World) (o : Obj) : (W.alloc o).heap[W.heap.size]? = some o := by
  show (W.heap.push o)[W.heap.size]? = some o
  simp
theorem cell_of_block {W : World} {B : Nat} {cs : Array Value} {t : TypeId} (h : W.heap[B]? = some (.cells cs t)) (j : Nat) (v : Value) (hv : cs[j]? = some v) : W.cell? ⟨B, j, none⟩ = some v := by
  simp only [World.cell?, h]
  simpa using hv
end Go.Proofs.YtckammgnmgkieaaGreat

/-
  rdata.readOctets.
-/
namespace Go.Proofs.YtckammgnmgkieaaGreat
set_option maxRecDepth 20000
open Go.RowKit Go.Shelf

theorem WdsAt.drop {W : World} {g off n c : Nat} {l : List Wd} (h : WdsAt W (.slice (some ⟨g, off, none⟩) n c) l) (hn : l.length = n) (h1 : 1 ≤ n) :
    WdsAt W (.slice (if c = 1 then some ⟨g, off, none⟩ else some ⟨g, off + 2, none⟩) (n - 1) (c - 1)) (l.drop 1) := by
  obtain ⟨a, c', e, h2, h3, h⟩ := h
  rw [Value.slice.injEq] at e
  obtain ⟨rfl, _, rfl⟩ := e
  refine ⟨_, _, by rw [List.length_drop, hn], by rw [List.length_drop, hn]; omega, ?_, ?_⟩
  · intro h; split at h <;> cases h
  · rcases h with h | ⟨b, o, e, hb, hcell⟩
    · subst h; simp at hn; omega
    · rw [Option.some.injEq] at e
      cases e
      by_cases h4 : c = 1
      · left; exact List.eq_nil_of_length_eq_zero (by rw [List.length_drop]; omega)
      · right
        rw [if_neg h4]
        refine ⟨g, off + 2, rfl, hb, fun j hj => ?_⟩
        have hj' : j + 1 < l.length := by rw [List.length_drop] at hj; omega
        have := hcell (j + 1) hj'
        rw [show off + (j + 1) * 2 = off + 2 + j * 2 by omega] at this
        rw [List.getElem_drop]
        simp only [Nat.add_comm 1 j]
        exact this
theorem WdsOK.drop {l : List Wd} (h : WdsOK l) (k : Nat) : WdsOK (l.drop k) := ⟨by have := h.1; rw [List.length_drop]; omega, fun x hx => h.2 x (List.mem_of_mem_drop hx)⟩
end Go.Proofs.YtckammgnmgkieaaGreat

/-
  Data behind a pointer: rdata.readWord.
-/
namespace Go.Proofs.YtckammgnmgkieaaGreat
set_option maxRecDepth 20000
open Go.RowKit Go.Shelf
set_option maxRecDepth 20000

abbrev SlV := Option Addr × Nat × Nat
def slEnc (x : SlV) : Value := .slice x.1 x.2.1 x.2.2
theorem slEnc_one (x : SlV) : (slEnc x).oneCell' = true := rfl
theorem elemNames : ElemT 24 42 24 := ⟨Tryz.underlying42, _, _, rfl, rfl, rfl, rfl, rfl⟩
theorem OwnG.apart {α β : Type} {T T' : TypeId} {enc : α → Value} {enc' : β → Value} {W : World} {base base' : Nat} {v v' : Value} {xs : List α} {ys : List β} (h : OwnG T enc W base v xs) (h' : OwnG T' enc' W base' v' ys) (hT : T ≠ T') : v.ownBlock = none ∨ v.ownBlock ≠ v'.ownBlock := by
  rcases h.2 with ⟨rfl, _⟩ | ⟨g, cap, cur, rfl, _, hg, _⟩
  · left; rfl
  · right
    intro e
    exact h'.ne_block hg hT e
theorem OwnG.kept2 {α β : Type} {T T' : TypeId} {enc : α → Value} {enc' : β → Value} {W W' : World} {base base' : Nat} {v v' : Value} {xs : List α} {ys : List β} (h : OwnG T enc W base v xs) (h' : OwnG T' enc' W base' v' ys) (hT : T ≠ T') (hg : W.grownBy W' v'.ownBlock) : OwnG T enc W' base v xs :=
  h.kept hg (h.apart h' hT)
theorem block_set {W : World} {B : Nat} {cs : Array Value} {t : TypeId} (h : W.heap[B]? = some (.cells cs t)) (j : Nat) (v : Value) : (W.setCell ⟨B, j, none⟩ v).heap[B]? = some (.cells (cs.setIfInBounds j v) t) := by
  obtain ⟨hlt, hk⟩ := Array.getElem?_eq_some_iff.1 h
  show (W.heap.modify B _)[B]? = _
  rw [Array.getElem?_eq_getElem (by rw [Array.size_modify]; exact hlt), Array.getElem_modify_self, hk]
  rfl
theorem grownBy_set (W : World) (b j : Nat) (v : Value) : W.grownBy (W.setCell ⟨b, j, none⟩ v) (some b) :=
  ⟨rfl, rfl, rfl, (KeepsWalks.setCell W _ v).size, fun k _ hk => Below.heap_setCell _ _ _ k (fun e => hk (by rw [e]))⟩
theorem OwnG.keptB {α : Type} {T : TypeId} {enc : α → Value} {W : World} {base : Nat} {v : Value} {xs : List α} (h : OwnG T enc W base v xs) {B : Nat} {cs : Array Value} {t : TypeId} (hB : W.heap[B]? = some (.cells cs t)) (ht : t ≠ T) (j : Nat) (u : Value) : OwnG T enc (W.setCell ⟨B, j, none⟩ u) base v xs :=
  h.kept (grownBy_set W B j u) (.inr (fun e => h.ne_block hB ht e.symm))
theorem frozen_block {W : World} {B : Nat} {cs : Array Value} {t : TypeId} (h : W.heap[B]? = some (.cells cs t)) (j : Nat) : W.frozen? ⟨B, j, none⟩ = false := by simp [World.frozen?, h]
theorem block_lt {W : World} {B : Nat} {o : Obj} (h : W.heap[B]? = some o) : B < W.heap.size := (Array.getElem?_eq_some_iff.1 h).1

def OwnNms (W : World) (base : Nat) (v : Value) (ns : List Nm) : Prop := ∃ vs : List SlV, OwnG 24 slEnc W base v vs ∧ vs.length = ns.length ∧ ∀ j (h1 : j < vs.length) (h2 : j < ns.length), OwnG 9 strV W base (slEnc vs[j]) ns[j]
theorem OwnNms.below {W W' : World} {base : Nat} {v : Value} {ns : List Nm} (h : OwnNms W base v ns) (hb : Below W.heap.size W W') : OwnNms W' base v ns := by
  obtain ⟨vs, h1, h2, h3⟩ := h
  exact ⟨vs, h1.below hb, h2, fun j a b => (h3 j a b).below hb⟩
theorem OwnNms.nms {W : World} {base : Nat} {v : Value} {ns : List Nm} (h : OwnNms W base v ns) : NmsAt W v ns := by
  obtain ⟨vs, h1, h2, h3⟩ := h
  refine ⟨vs.map slEnc, SlAt.of_own h1, by rw [List.length_map]; exact h2, fun j hj => ?_⟩
  rw [List.getElem_map]
  exact (h3 j (by simpa using hj) (by rw [List.length_map] at hj; omega)).nmAt
theorem OwnNms.nil (W : World) (base : Nat) : OwnNms W base (.slice none 0 0) [] := ⟨[], OwnG.nil _ _, rfl, fun j h => by simp at h⟩
def DRow (W : World) (base : Nat) (vn vu vt vr : Value) (d : Dat) : Prop := OwnNms W base vn d.names ∧ OwnG 35 u32V W base vu d.nums ∧ OwnG 9 strV W base vt d.texts ∧ OwnG 5 bv W base vr d.raw
def DBox (W : World) (B base : Nat) (d : Dat) : Prop := ∃ vn vu vt vr, W.heap[B]? = some (.cells #[.int .i64 d.ty, vn, vu, vt, vr] 101) ∧ DRow W base vn vu vt vr d
theorem DRow.below {W W' : World} {base : Nat} {vn vu vt vr : Value} {d : Dat} (h : DRow W base vn vu vt vr d) (hb : Below W.heap.size W W') : DRow W' base vn vu vt vr d :=
  ⟨h.1.below hb, h.2.1.below hb, h.2.2.1.below hb, h.2.2.2.below hb⟩
theorem DRow.datAt {W : World} {base : Nat} {vn vu vt vr : Value} {d : Dat} (h : DRow W base vn vu vt vr d) : DatAt W (.agg #[.int .i64 d.ty, vn, vu, vt, vr]) d :=
  ⟨vn, vu, vt, vr, rfl, h.1.nms, SlAt.of_own h.2.1, h.2.2.1.nmAt, SlAt.of_own h.2.2.2⟩
theorem DBox.below {W W' : World} {B base : Nat} {d : Dat} (h : DBox W B base d) (hb : Below W.heap.size W W') : DBox W' B base d := by
  obtain ⟨vn, vu, vt, vr, h1, h2⟩ := h
  exact ⟨vn, vu, vt, vr, (hb.block B (block_lt h1)).trans h1, h2.below hb⟩
theorem OwnNms.keptB {W : World} {base : Nat} {v : Value} {ns : List Nm} (h : OwnNms W base v ns) {B : Nat} {cs : Array Value} (hB : W.heap[B]? = some (.cells cs 101)) (j : Nat) (u : Value) : OwnNms (W.setCell ⟨B, j, none⟩ u) base v ns := by
  obtain ⟨vs, h1, h2, h3⟩ := h
  exact ⟨vs, h1.keptB hB (by decide) j u, h2, fun i a b => (h3 i a b).keptB hB (by decide) j u⟩
theorem OwnNms.kept2 {β : Type} {T' : TypeId} {enc' : β → Value} {W W' : World} {base base' : Nat} {v v' : Value} {ns : List Nm} {ys : List β} (h : OwnNms W base v ns) (h' : OwnG T' enc' W base' v' ys) (hT : 24 ≠ T') (hS : 9 ≠ T') (hg : W.grownBy W' v'.ownBlock) : OwnNms W' base v ns := by
  obtain ⟨vs, h1, h2, h3⟩ := h
  exact ⟨vs, h1.kept2 h' hT hg, h2, fun i a b => (h3 i a b).kept2 h' hS hg⟩
theorem DRow.set {W : World} {B base : Nat} {cs : Array Value} {vn vu vt vr : Value} {d : Dat} (h : DRow W base vn vu vt vr d) (hB : W.heap[B]? = some (.cells cs 101)) (j : Nat) (u : Value) : DRow (W.setCell ⟨B, j, none⟩ u) base vn vu vt vr d :=
  ⟨h.1.keptB hB j u, h.2.1.keptB hB (by decide) j u, h.2.2.1.keptB hB (by decide) j u, h.2.2.2.keptB hB (by decide) j u⟩

def KeepW (B : Nat) (w w' : World) : Prop := ∀ (b : Nat) (cs : Array Value), b ≠ B → w.heap[b]? = some (Obj.cells cs 101) → w'.heap[b]? = some (Obj.cells cs 101)
theorem KeepW.refl (B : Nat) (w : World) : KeepW B w w := by intro x cs _ e; exact e
theorem KeepW.trans {B : Nat} {a b c : World} (h : KeepW B a b) (k : KeepW B b c) : KeepW B a c := by intro x cs n e; exact k x cs n (h x cs n e)
theorem KeepW.below {B : Nat} {w w' : World} (h : Below w.heap.size w w') : KeepW B w w' := by intro b cs _ e; exact (h.block b (block_lt e)).trans e
theorem KeepW.grown {B : Nat} {α : Type} {T : TypeId} {enc : α → Value} {w w' : World} {base : Nat} {v : Value} {xs : List α} (h : OwnG T enc w base v xs) (hT : 101 ≠ T) (hg : w.grownBy w' v.ownBlock) : KeepW B w w' := by
  intro b cs _ e; exact (hg.block b (block_lt e) (h.ne_block e hT)).trans e
theorem KeepW.set {w : World} {B : Nat} (j : Nat) (u : Value) : KeepW B w (w.setCell ⟨B, j, none⟩ u) := by
  intro b cs2 hb e
  exact ((grownBy_set w B j u).block b (block_lt e) (fun h => hb (by simpa using h))).trans e
end Go.Proofs.YtckammgnmgkieaaGreat

/-
  rdata.Parse.
-/
namespace Go.Proofs.YtckammgnmgkieaaGreat
set_option maxRecDepth 20000
open Go.RowKit Go.Shelf
set_option maxRecDepth 20000

def set5 (W : World) (R : Nat) (x0 x1 x2 x3 x4 : Value) : World := ((((W.setCell ⟨R, 0, none⟩ x0).setCell ⟨R, 1, none⟩ x1).setCell ⟨R, 2, none⟩ x2).setCell ⟨R, 3, none⟩ x3).setCell ⟨R, 4, none⟩ x4
theorem set5_below {w W : World} {R : Nat} (hb : Below R w W) (x0 x1 x2 x3 x4 : Value) : Below R w (set5 W R x0 x1 x2 x3 x4) :=
  ((((hb.setCell (p := ⟨R, 0, none⟩) (Nat.le_refl _) x0).setCell (p := ⟨R, 1, none⟩) (Nat.le_refl _) x1).setCell (p := ⟨R, 2, none⟩) (Nat.le_refl _) x2).setCell (p := ⟨R, 3, none⟩) (Nat.le_refl _) x3).setCell (p := ⟨R, 4, none⟩) (Nat.le_refl _) x4
end Go.Proofs.YtckammgnmgkieaaGreat

