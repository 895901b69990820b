/-
  The law's Few for data: the walk.
-/
import Derived.Test.YtckammgnmgkieaaGreatMQ36
import Derived.Test.YtckammgnmgkieaaGreatMQ28
import Derived.Test.YtckammgnmgkieaaGreatMQ12
import Derived.Test.YtckammgnmgkieaaGreatMQ19
import Derived.Test.YtckammgnmgkieaaGreatMQ14
import Derived.Laws.AppendOwnNone
import Derived.Lib.Walk
import Derived.Lib.SliceRun
namespace Go.Proofs.YtckammgnmgkieaaGreat
set_option maxRecDepth 20000
open Go.RowKit Go.Shelf

theorem SlAt.cell {W W' : World} {a : Option Addr} {n c : Nat} {xs : List Value} (h : SlAt W (.slice a n c) xs) (hb : Below W.heap.size W W') (j : Nat) (hj : j < xs.length) :
    ∃ b off, a = some ⟨b, off, none⟩ ∧ b < W.heap.size ∧ W'.cell? ⟨b, off + j, none⟩ = some xs[j] := by
  obtain ⟨a', c', e, _, _, hx⟩ := h
  cases e
  rcases hx with e | ⟨b, off, ea, hlt, hc⟩
  · subst e; simp at hj
  · exact ⟨b, off, ea, hlt, (hb.cell (p := ⟨b, off + j, none⟩) hlt).trans (hc j hj)⟩

set_option maxRecDepth 100000 in
set_option maxHeartbeats 8000000 in
theorem law4_Few (v : Value) (d : Dat) (w : World) (hA : DatArg w v d) :
    Calls Tryz.prog 59 #[v] w fun e w' => e = .returned (.bool (fewD d)) ∧ Below w.heap.size w w' := by
  obtain ⟨⟨vn, vu, vt, vr, rfl, a1, a2, a3, a4⟩, _, hN, _, hT⟩ := hA
  obtain ⟨vs, s1, sl, s2⟩ := a1
  obtain ⟨an, cn, rfl, x1⟩ := id s1
  obtain ⟨au, cu, rfl, x2⟩ := a2
  obtain ⟨ax, ct, rfl, x3⟩ := id a3.1
  obtain ⟨ar, cr, rfl, x4⟩ := a4
  clear x1 x2 x3 x4
  rw [List.length_map, List.length_map]
  obtain ⟨n1, e1⟩ : ∃ n, vs.length = n := ⟨_, rfl⟩
  obtain ⟨n2, e2⟩ : ∃ n, d.nums.length = n := ⟨_, rfl⟩
  obtain ⟨n3, e3⟩ : ∃ n, d.texts.length = n := ⟨_, rfl⟩
  obtain ⟨n4, e4⟩ : ∃ n, d.raw.length = n := ⟨_, rfl⟩
  have hbig : ¬ (n1 ≤ 8 ∧ n2 ≤ 12 ∧ n3 ≤ 40 ∧ n4 ≤ 1100) → fewD d = false := by
    intro h
    unfold fewD
    rw [decide_eq_false (by rw [← sl, e1, e2, e3, e4]; exact h)]; rfl
  have hb0 : ∀ o, Below w.heap.size w (w.alloc o) := fun o => (Below.refl _ w).alloc (Nat.le_refl _) o
  have hcn := fun o j (hj : j < vs.length) => s1.cell (hb0 o) j hj
  have hst : ∀ o j (h1 : j < vs.length) (h2 : j < d.names.length), StrsAt (w.alloc o) vs[j] d.names[j] := fun o j h1 _ => ((s2 j h1).below (hb0 o)).1
  have hct := fun o j hj => a3.1.cell (hb0 o) j hj
  have n0 := new_at w [.int .i64 d.ty, .slice an vs.length cn, .slice au n2 cu, .slice ax n3 ct, .slice ar n4 cr] 101
  rw [e2, e3, e4]
  rw [e1] at n0 ⊢
  have f1 := n0 1 _ rfl; have f2 := n0 2 _ rfl; have f3 := n0 3 _ rfl; have f4 := n0 4 _ rfl
  have E1 := Lib.hid e1; have E3 := Lib.hid e3; have SL := Lib.hid sl; have HB0 := Lib.hid hb0
  have E24 := Lib.hid (And.intro e2 e4)
  clear n0 s1 s2 a3 e1 e2 e3 e4 sl hb0
  by_cases c1 : 8 < (n1 : Int)
  · have H0 : Hid (fewD d = false) := Lib.hid (hbig (by omega))
    clear hbig hcn hst hct hN hT
    go_enter Tryz.func59, Tryz.ntmps59
    go_wp2
    go_ret
    exact ⟨by rw [H0.out]; rfl, HB0.out _⟩
  by_cases c2 : 12 < (n2 : Int)
  · have H0 : Hid (fewD d = false) := Lib.hid (hbig (by omega))
    clear hbig hcn hst hct hN hT
    go_enter Tryz.func59, Tryz.ntmps59
    go_wp2
    go_ret
    exact ⟨by rw [H0.out]; rfl, HB0.out _⟩
  by_cases c3 : 40 < (n3 : Int)
  · have H0 : Hid (fewD d = false) := Lib.hid (hbig (by omega))
    clear hbig hcn hst hct hN hT
    go_enter Tryz.func59, Tryz.ntmps59
    go_wp2
    go_ret
    exact ⟨by rw [H0.out]; rfl, HB0.out _⟩
  by_cases c4 : 1100 < (n4 : Int)
  · have H0 : Hid (fewD d = false) := Lib.hid (hbig (by omega))
    clear hbig hcn hst hct hN hT
    go_enter Tryz.func59, Tryz.ntmps59
    go_wp2
    go_ret
    exact ⟨by rw [H0.out]; rfl, HB0.out _⟩
  have hC := fun j h1 => hcn (.cells #[.int .i64 d.ty, .slice an n1 cn, .slice au n2 cu, .slice ax n3 ct, .slice ar n4 cr] 101) j h1
  have hS := hst (.cells #[.int .i64 d.ty, .slice an n1 cn, .slice au n2 cu, .slice ax n3 ct, .slice ar n4 cr] 101)
  have hT2 := hct (.cells #[.int .i64 d.ty, .slice an n1 cn, .slice au n2 cu, .slice ax n3 ct, .slice ar n4 cr] 101)
  have hB1 := Lib.hid (HB0.out (.cells #[.int .i64 d.ty, .slice an n1 cn, .slice au n2 cu, .slice ax n3 ct, .slice ar n4 cr] 101))
  clear hcn hst hct hbig HB0
  go_enter Tryz.func59, Tryz.ntmps59
  go_wp2
  generalize w.alloc (.cells #[.int .i64 d.ty, .slice an n1 cn, .slice au n2 cu, .slice ax n3 ct, .slice ar n4 cr] 101) = W0 at *
  have HFF : Hid (∀ (k : Nat) (h : k < d.names.length), fewN d.names[k] = false → fewD d = false) := Lib.hid (fun k h e => by
    unfold fewD
    rw [decide_eq_false (p := ∀ n ∈ d.names, fewN n = true) (fun hh => by have := hh _ (List.getElem_mem h); rw [e] at this; cases this)]
    simp)
  have HFT : Hid (∀ (k : Nat) (h : k < d.texts.length), 300 < d.texts[k].length → fewD d = false) := Lib.hid (fun k h e => by
    unfold fewD
    rw [decide_eq_false (p := ∀ x ∈ d.texts, x.length ≤ 300) (fun hh => by have := hh _ (List.getElem_mem h); omega)]
    simp)
  have HFO : Hid ((∀ n ∈ d.names, fewN n = true) → (∀ x ∈ d.texts, x.length ≤ 300) → fewD d = true) := Lib.hid (fun h1 h2 => by
    unfold fewD
    rw [decide_eq_true h1, decide_eq_true h2, decide_eq_true]
    · rfl
    · have := E24.out; have := E3.out; have := SL.out; have := E1.out; omega)
  go_loopw [3] (fun i wr => ∃ k : Nat, i = .int .i64 k ∧ k ≤ n1 ∧ Hid (∀ n ∈ d.names.take k, fewN n = true) ∧ W0 = wr) (fun i _ => n1 - (intOf i).toNat)
  case atStart => exact ⟨0, rfl, Nat.zero_le _, Lib.hid (by simp), by first | rfl | trivial⟩
  case round =>
    obtain ⟨k, rfl, hk, HC, rfl⟩ := hrel
    by_cases hlt : k < n1
    · have hkv : k < vs.length := by rw [E1.out]; exact hlt
      have hkd : k < d.names.length := by rw [← SL.out]; exact hkv
      obtain ⟨g, off, rfl, hg, hc⟩ := hC k hkv
      have hNk := hN _ (List.getElem_mem hkd)
      have hF := law2_Few _ _ W0 (hS k hkv hkd) hNk.1 hNk.2
      have HT := Lib.hid (show fewN d.names[k] = true → ∀ n ∈ d.names.take (k + 1), fewN n = true from fun e n hn => by
        rw [List.take_succ_eq_append_getElem hkd] at hn
        rcases List.mem_append.1 hn with hn | hn
        · exact HC.out n hn
        · rw [List.mem_singleton.1 hn]; exact e)
      have HF0 := Lib.hid (HFF.out k hkd)
      clear hC hS hNk hT2 hN hT
      generalize vs[k] = sv at *
      generalize fewN d.names[k] = q at *
      cases q with
      | false =>
        have H0 : Hid (fewD d = false) := Lib.hid (HF0.out rfl)
        go_wp2_with (go_at_call 13; refine hF.mono ?_; rintro e w2 ⟨rfl, rfl⟩)
        go_ret
        exact ⟨by rw [H0.out]; rfl, hB1.out⟩
      | true =>
        go_wp2_with (go_at_call 13; refine hF.mono ?_; rintro e w2 ⟨rfl, rfl⟩)
        go_roundw
        case rel => exact ⟨k + 1, by go_num, by omega, Lib.hid (by first | exact HT.out rfl | exact HT.out trivial), by first | rfl | trivial⟩
        case measure => simp [intOf]; omega
    · obtain rfl : k = n1 := by omega
      have HN1 : Hid (∀ n ∈ d.names, fewN n = true) := Lib.hid (by
        have e := HC.out
        rw [List.take_of_length_le (by have := SL.out; have := E1.out; omega)] at e
        exact e)
      clear hC hS hN HC
      go_wp2
      go_loopw [4] (fun i wr => ∃ j : Nat, i = .int .i64 j ∧ j ≤ n3 ∧ Hid (∀ x ∈ d.texts.take j, x.length ≤ 300) ∧ W0 = wr) (fun i _ => n3 - (intOf i).toNat)
      case atStart => exact ⟨0, rfl, Nat.zero_le _, Lib.hid (by simp), by first | rfl | trivial⟩
      case round =>
        obtain ⟨j, rfl, hj, HC, rfl⟩ := hrel
        by_cases hlt2 : j < n3
        · have hjt : j < d.texts.length := by rw [E3.out]; exact hlt2
          obtain ⟨g, off, rfl, hg, hc⟩ := hT2 j hjt
          obtain ⟨s, hs0, hsz, hsv⟩ := str_of d.texts[j]
          rw [hsv] at hc
          have hxk := hT _ (List.getElem_mem hjt)
          unfold maxLen at hxk
          rw [← hsz] at hxk
          by_cases hb : 300 < (s.size : Int)
          · have H0 : Hid (fewD d = false) := Lib.hid (HFT.out j hjt (by omega))
            clear hs0 hsz hsv hT2 hT
            go_wp2
            go_ret
            exact ⟨by rw [H0.out]; rfl, hB1.out⟩
          · have HT : Hid (∀ x ∈ d.texts.take (j + 1), x.length ≤ 300) := Lib.hid (fun n hn => by
              rw [List.take_succ_eq_append_getElem hjt] at hn
              rcases List.mem_append.1 hn with hn | hn
              · exact HC.out n hn
              · rw [List.mem_singleton.1 hn]; omega)
            clear hs0 hsz hsv hT2 hT
            go_wp2
            go_roundw
            case rel => exact ⟨j + 1, by go_num, by omega, HT, by first | rfl | trivial⟩
            case measure => simp [intOf]; omega
        · obtain rfl : j = n3 := by omega
          have H0 : Hid (fewD d = true) := Lib.hid (HFO.out HN1.out (by
            have e := HC.out
            rw [List.take_of_length_le (by have := E3.out; omega)] at e
            exact e))
          clear hT2 hT
          go_wp2
          go_ret
          exact ⟨by rw [H0.out]; rfl, hB1.out⟩
end Go.Proofs.YtckammgnmgkieaaGreat

/-
  A zone as a plain origin and a plain row: ancestors, cuts, depth, wildcards (plain).
-/
namespace Go.Proofs.YtckammgnmgkieaaGreat
set_option maxRecDepth 20000
set_option linter.unusedVariables false
def ancN (n : Nm) (k : Nat) : Nm := n.drop (n.length - k)
theorem ancN_len {n : Nm} {k : Nat} (h : k ≤ n.length) : (ancN n k).length = k := by simp [ancN]; omega
theorem ancN_anc {n : Nm} {k j : Nat} (h : j ≤ k) (hk : k ≤ n.length) : ancN (ancN n k) j = ancN n j := by
  unfold ancN
  rw [List.drop_drop, List.length_drop]; congr 1; omega
theorem sameN_under {a b : Nm} (h : sameN a b = true) (z : Nm) : underN a z = underN b z := by
  rw [Bool.eq_iff_iff, underN_iff, underN_iff, (sameN_iff _ _).1 h]
theorem under_sameN {a b : Nm} (h : sameN a b = true) (n : Nm) : underN n a = underN n b := by
  rw [Bool.eq_iff_iff, underN_iff, underN_iff, (sameN_iff _ _).1 h]
theorem under_anc (n : Nm) (k : Nat) : underN n (ancN n k) = true := by
  rw [underN_iff]
  exact ⟨(foldN n).take (n.length - k), by simp [ancN, foldN, List.map_drop]⟩
theorem under_up {w n : Nm} {k j : Nat} (h : underN w (ancN n k) = true) (hj : j ≤ k) (hk : k ≤ n.length) : underN w (ancN n j) = true := by
  refine underN_trans h ?_
  rw [← ancN_anc hj hk]
  exact under_anc _ _
theorem under_same {n z : Nm} (h : underN n z = true) : sameN (ancN n z.length) z = true := by
  obtain ⟨p, e⟩ := (underN_iff _ _).1 h
  rw [sameN_iff]
  have hl : n.length = p.length + z.length := by have := congrArg List.length e; simpa [foldN] using this
  have : foldN (ancN n z.length) = (foldN n).drop p.length := by
    unfold ancN foldN
    rw [List.map_drop, show n.length - z.length = p.length by omega]
  rw [this, e, List.drop_left]
theorem under_of_same {n z : Nm} (h : sameN (ancN n z.length) z = true) : underN n z = true := by
  rw [← under_sameN h]; exact under_anc _ _
theorem anc_under {n z : Nm} {k : Nat} (hk : k ≤ n.length) (hz : z.length ≤ k) : underN (ancN n k) z = underN n z := by
  rw [Bool.eq_iff_iff]
  constructor
  · exact fun h => underN_trans (under_anc _ _) h
  · intro h
    have := under_same h
    rw [← ancN_anc hz hk] at this
    exact under_of_same this

def deepF : Nat → Nm → Nm → Nat → Nat
  | 0, _, _, f => f
  | k + 1, n, w, f => if underN w (ancN n (f + 1)) then deepF k n w (f + 1) else f
def deepM (n w : Nm) (f : Nat) : Nat := deepF (n.length - f) n w f
def depthM (o : Nm) (rs : List Rc) (n : Nm) : Nat := rs.foldl (fun f r => deepM n r.owner f) o.length
theorem deepF_spec : ∀ (k : Nat) (n w : Nm) (f : Nat), f + k = n.length → f ≤ deepF k n w f ∧ deepF k n w f ≤ n.length ∧ (deepF k n w f = f ∨ underN w (ancN n (deepF k n w f)) = true) ∧ ∀ s, s ≤ n.length → underN w (ancN n s) = true → s ≤ deepF k n w f
  | 0, n, w, f, h => ⟨Nat.le_refl _, by simp [deepF]; omega, .inl rfl, fun s hs _ => by simp [deepF]; omega⟩
  | k + 1, n, w, f, h => by
    unfold deepF
    by_cases hu : underN w (ancN n (f + 1)) = true
    · rw [if_pos hu]
      obtain ⟨h1, h2, h3, h4⟩ := deepF_spec k n w (f + 1) (by omega)
      refine ⟨by omega, h2, .inr ?_, h4⟩
      rcases h3 with e | e
      · rw [e]; exact hu
      · exact e
    · rw [if_neg hu]
      refine ⟨Nat.le_refl _, by omega, .inl rfl, fun s hs hs2 => ?_⟩
      refine Nat.le_of_not_lt fun hlt => hu ?_
      exact under_up hs2 (by omega) hs
theorem deepM_spec {n w : Nm} {f : Nat} (h : f ≤ n.length) : f ≤ deepM n w f ∧ deepM n w f ≤ n.length ∧ (deepM n w f = f ∨ underN w (ancN n (deepM n w f)) = true) ∧ ∀ s, s ≤ n.length → underN w (ancN n s) = true → s ≤ deepM n w f :=
  deepF_spec _ n w f (by omega)
theorem deepM_step {n w : Nm} {f : Nat} (h : f < n.length) : deepM n w f = if underN w (ancN n (f + 1)) then deepM n w (f + 1) else f := by
  unfold deepM
  rw [show n.length - f = (n.length - (f + 1)) + 1 by omega]
  rfl
theorem deepM_end {n w : Nm} {f : Nat} (h : n.length ≤ f) : deepM n w f = f := by
  unfold deepM
  rw [show n.length - f = 0 by omega]; rfl
theorem depthF_spec (n : Nm) : ∀ (rs : List Rc) (f : Nat), f ≤ n.length → f ≤ rs.foldl (fun f r => deepM n r.owner f) f ∧ rs.foldl (fun f r => deepM n r.owner f) f ≤ n.length ∧
    (rs.foldl (fun f r => deepM n r.owner f) f = f ∨ ∃ r ∈ rs, underN r.owner (ancN n (rs.foldl (fun f r => deepM n r.owner f) f)) = true) ∧ ∀ r ∈ rs, ∀ s, s ≤ n.length → underN r.owner (ancN n s) = true → s ≤ rs.foldl (fun f r => deepM n r.owner f) f
  | [], f, h => ⟨Nat.le_refl _, h, .inl rfl, fun r hr => absurd hr (by simp)⟩
  | x :: rs, f, h => by
    obtain ⟨d1, d2, d3, d4⟩ := deepM_spec (w := x.owner) h
    obtain ⟨h1, h2, h3, h4⟩ := depthF_spec n rs (deepM n x.owner f) d2
    rw [List.foldl_cons]
    refine ⟨by omega, h2, ?_, fun r hr s hs hu => ?_⟩
    · rcases h3 with e | ⟨r, hr, e⟩
      · rw [e]
        rcases d3 with e2 | e2
        · exact .inl e2
        · exact .inr ⟨x, by simp, e2⟩
      · exact .inr ⟨r, by simp [hr], e⟩
    · rcases List.mem_cons.1 hr with rfl | hr
      · have := d4 s hs hu; omega
      · exact h4 r hr s hs hu
theorem depthM_spec {o n : Nm} (rs : List Rc) (h : o.length ≤ n.length) : o.length ≤ depthM o rs n ∧ depthM o rs n ≤ n.length ∧ (depthM o rs n = o.length ∨ ∃ r ∈ rs, underN r.owner (ancN n (depthM o rs n)) = true) ∧
    ∀ r ∈ rs, ∀ s, s ≤ n.length → underN r.owner (ancN n s) = true → s ≤ depthM o rs n := depthF_spec n rs _ h
theorem depthM_le {o n : Nm} (rs : List Rc) (h : o.length ≤ n.length) : depthM o rs n ≤ n.length := (depthM_spec rs h).2.1
def existsM (o : Nm) (rs : List Rc) (n : Nm) : Bool := underN n o && decide (depthM o rs n = n.length)
def encM (o : Nm) (rs : List Rc) (n : Nm) : Nm := if underN n o then ancN n (depthM o rs n) else []
def starM (o : Nm) (rs : List Rc) (n : Nm) : Nm := [42] :: encM o rs n
def sourceM (o : Nm) (rs : List Rc) (n : Nm) : Bool := rs.any fun r => sameN r.owner (starM o rs n)
def pointM (rs : List Rc) (n : Nm) : List Nat := (rs.filter fun r => decide (r.data.ty = 2) && underN n r.owner).map fun r => r.owner.length
def cutM (o : Nm) (rs : List Rc) (n : Nm) : Option Nat := if underN n o then (List.range' (o.length + 1) (n.length - o.length)).find? (fun s => (pointM rs n).contains s) else none
def whereM (o : Nm) (rs : List Rc) (n : Nm) : Int := if underN n o then (match cutM o rs n with | none => 1 | some s => if s = n.length then 2 else 3) else 0
def glueM (rs : List Rc) (h : Nm) : List Dat := ((ofM rs h 1).getD ⟨[], 0, 0, []⟩).data ++ ((ofM rs h 28).getD ⟨[], 0, 0, []⟩).data

theorem point_has {rs : List Rc} {n : Nm} {s : Nat} : (pointM rs n).contains s = rs.any fun r => decide (r.data.ty = 2) && underN n r.owner && decide (r.owner.length = s) := by
  rw [Bool.eq_iff_iff]
  simp only [pointM, List.contains_iff_mem, List.mem_map, List.mem_filter, List.any_eq_true, Bool.and_eq_true, decide_eq_true_eq]
  constructor
  · rintro ⟨r, ⟨h1, h2, h3⟩, h4⟩; exact ⟨r, h1, ⟨h2, h3⟩, h4⟩
  · rintro ⟨r, h1, ⟨h2, h3⟩, h4⟩; exact ⟨r, ⟨h1, h2, h3⟩, h4⟩
theorem point_anc {rs : List Rc} {n : Nm} {k s : Nat} (hk : k ≤ n.length) (hs : s ≤ k) : (pointM rs (ancN n k)).contains s = (pointM rs n).contains s := by
  rw [point_has, point_has]
  congr 1
  funext r
  by_cases h : r.owner.length = s
  · rw [anc_under hk (by omega)]
  · simp [h]
theorem find_congr {α : Type} {p q : α → Bool} : ∀ (l : List α), (∀ x ∈ l, p x = q x) → l.find? p = l.find? q
  | [], _ => rfl
  | x :: r, h => by
    rw [List.find?_cons, List.find?_cons, h x (by simp), find_congr r fun y hy => h y (by simp [hy])]
theorem find_append {α : Type} {p : α → Bool} (a b : List α) : (a ++ b).find? p = (a.find? p).or (b.find? p) := by
  rw [List.find?_append]
theorem range_split (a k m : Nat) (h : k ≤ m) : List.range' a m = List.range' a k ++ List.range' (a + k) (m - k) := by
  rw [List.range'_append_1]; congr 1; omega
theorem cutM_some {o : Nm} {rs : List Rc} {n : Nm} {s : Nat} (h : cutM o rs n = some s) : underN n o = true ∧ o.length < s ∧ s ≤ n.length := by
  unfold cutM at h
  by_cases hu : underN n o = true
  · rw [if_pos hu] at h
    have := List.mem_of_find?_eq_some h
    rw [List.mem_range'_1] at this
    have hl := underN_len hu
    exact ⟨hu, by omega, by omega⟩
  · rw [if_neg hu] at h; cases h
theorem cR_owner {a b : Rc} (h : compareR a b = 0) : sameN a.owner b.owner = true := by
  have := (keyR_zero a b).1 (keyR_eq h)
  simp only [belR, belM, Bool.and_eq_true, decide_eq_true_eq] at this
  exact this.2
theorem cR_type {a b : Rc} (h : compareR a b = 0) : a.data.ty = b.data.ty := by
  have := (keyR_zero a b).1 (keyR_eq h)
  simp only [belR, belM, Bool.and_eq_true, decide_eq_true_eq] at this
  exact this.1
def AlikeZ (l m : List Rc) : Prop := (∀ x ∈ l, ∃ y ∈ m, compareR y x = 0) ∧ ∀ x ∈ m, ∃ y ∈ l, compareR y x = 0
theorem AlikeZ.any {l m : List Rc} (h : AlikeZ l m) {p : Rc → Bool} (hp : ∀ a b, compareR a b = 0 → p a = p b) : l.any p = m.any p := by
  rw [Bool.eq_iff_iff, List.any_eq_true, List.any_eq_true]
  constructor
  · rintro ⟨x, hx, e⟩; obtain ⟨y, hy, h1⟩ := h.1 x hx; exact ⟨y, hy, by rw [hp y x h1]; exact e⟩
  · rintro ⟨x, hx, e⟩; obtain ⟨y, hy, h1⟩ := h.2 x hx; exact ⟨y, hy, by rw [hp y x h1]; exact e⟩
theorem AlikeZ.cut {l m : List Rc} (h : AlikeZ l m) (o n : Nm) : cutM o l n = cutM o m n := by
  unfold cutM
  congr 1
  refine find_congr _ fun s _ => ?_
  rw [point_has, point_has]
  refine h.any fun a b hab => ?_
  rw [cR_type hab, under_sameN (cR_owner hab), show a.owner.length = b.owner.length from by
    have := (sameN_iff _ _).1 (cR_owner hab)
    have := congrArg List.length this
    simpa [foldN] using this]
theorem AlikeZ.where {l m : List Rc} (h : AlikeZ l m) (o n : Nm) : whereM o l n = whereM o m n := by
  unfold whereM; rw [h.cut]

end Go.Proofs.YtckammgnmgkieaaGreat

/-
  Slices whose elements have k cells, wherever they lie; slices.Clone of them.
-/
namespace Go.Proofs.YtckammgnmgkieaaGreat
set_option maxRecDepth 20000
open Go.RowKit Go.Shelf
set_option maxRecDepth 20000
set_option linter.unusedVariables false
set_option linter.unusedSimpArgs false

def SlK (W : World) (v : Value) (css : List (List Value)) : Prop :=
  ∃ a c, v = .slice a css.length c ∧ css.length ≤ c ∧ (a = none → c = 0) ∧ (css = [] ∨ ∃ b off, a = some ⟨b, off, none⟩ ∧ b < W.heap.size ∧ ∀ j u, css.flatten[j]? = some u → W.cell? ⟨b, off + j, none⟩ = some u)
theorem SlK.below {W W' : World} {v : Value} {css : List (List Value)} (h : SlK W v css) (hb : Below W.heap.size W W') : SlK W' v css := by
  obtain ⟨a, c, e, h1, h2, h⟩ := h
  refine ⟨a, c, e, h1, h2, ?_⟩
  rcases h with h | ⟨b, off, ea, hlt, hc⟩
  · exact .inl h
  · exact .inr ⟨b, off, ea, Nat.lt_of_lt_of_le hlt hb.size, fun j u hj => (hb.cell (p := ⟨b, off + j, none⟩) hlt).trans (hc j u hj)⟩
theorem SlK.nil (W : World) : SlK W (.slice none 0 0) [] := ⟨none, 0, rfl, Nat.le_refl _, fun _ => rfl, .inl rfl⟩
theorem slK_one {W : World} {v : Value} {xs : List Value} (h : SlAt W v xs) : SlK W v (xs.map fun x => [x]) := by
  obtain ⟨a, c, e, h1, h2, h⟩ := h
  refine ⟨a, c, by rw [List.length_map]; exact e, by rw [List.length_map]; exact h1, h2, ?_⟩
  have hf : ∀ xs : List Value, (xs.map fun x => [x]).flatten = xs := fun xs => by
    induction xs with
    | nil => rfl
    | cons x r ih => rw [List.map_cons, List.flatten_cons, ih]; rfl
  rcases h with h | ⟨b, off, ea, hlt, hc⟩
  · subst h; exact .inl rfl
  · refine .inr ⟨b, off, ea, hlt, fun j u hj => ?_⟩
    rw [hf] at hj
    obtain ⟨hj1, hj2⟩ := List.getElem?_eq_some_iff.1 hj
    rw [← hj2]; exact hc j hj1
abbrev OwnC (k : Nat) (T : TypeId) (W : World) (base : Nat) (v : Value) (css : List (List Value)) : Prop := OwnK k T (fun cs : List Value => cs) W base v css
theorem flat_id (css : List (List Value)) : css.flatMap (fun cs => cs) = css.flatten := by simp [List.flatMap]
theorem flat_len {k : Nat} : ∀ (css : List (List Value)), (∀ cs ∈ css, cs.length = k) → css.flatten.length = css.length * k
  | [], _ => by simp
  | c :: r, h => by
    rw [List.flatten_cons, List.length_append, h c (by simp), flat_len r (fun x hx => h x (by simp [hx])), List.length_cons, Nat.succ_mul]; omega
theorem SlK.of_own {k : Nat} {T : TypeId} {W : World} {base : Nat} {v : Value} {css : List (List Value)} (h : OwnC k T W base v css) (hk : ∀ cs ∈ css, cs.length = k) : SlK W v css := by
  rcases h.2 with ⟨rfl, h0⟩ | ⟨g, cap, cur, rfl, hb, hg, hc, hm, hsz, htk⟩
  · obtain rfl := List.eq_nil_of_length_eq_zero h0
    exact SlK.nil W
  · refine ⟨_, _, rfl, hc, (fun e => by cases e), .inr ⟨g, 0, rfl, (Array.getElem?_eq_some_iff.1 hg).1, fun j u hj => ?_⟩⟩
    have hl := flat_len css hk
    have hj' : j < css.length * k := by rw [← hl]; exact (List.getElem?_eq_some_iff.1 hj).1
    have h3 : cur.toList[j]? = some u := by
      have : (cur.toList.take (css.length * k))[j]? = some u := by rw [htk, flat_id]; exact hj
      rw [List.getElem?_take, if_pos hj'] at this
      exact this
    simp only [World.cell?, hg, Nat.zero_add]
    simpa using h3
theorem wpl_append_slk {S T : TypeId} {k bytes : Nat} {ops : Array Oper} {rest : List Oper} {o : Oper} {a : Act} {Q : Exit → Act → World → Prop} (W : World) (hgd : o.guard = none) (s x : Operand) (hE : ElemK k T S bytes) (hk0 : 0 < k)
    (ho : o.op = .call { callee := .builtin .append, args := #[s, x], argTypes := #[S, S] })
    (base : Nat) (v : Value) (xs : List (List Value)) (hs : a.eval s = v) (hown : OwnC k T W base v xs)
    (src : Value) (ys : List (List Value)) (hx : a.eval x = src) (hsrc : SlK W src ys) (hyk : ∀ cs ∈ ys, cs.length = k) (hy1 : ∀ cs ∈ ys, ∀ u ∈ cs, u.oneCell' = true)
    (hbase : base ≤ W.heap.size) (hk : xs.length + ys.length ≤ maxLen) (hk2 : (xs.length + ys.length) * bytes ≤ 140737488355328)
    (h : ∀ v' w', OwnC k T w' base v' (xs ++ ys) → W.grownBy w' v.ownBlock → wpList Tryz.prog ops Q rest (a.put o.dst v') w') :
    wpList Tryz.prog ops Q (o :: rest) a W := by
  obtain ⟨ht, i, z, hi, hz, hz1, hz2, hzc⟩ := hE
  obtain ⟨a0, c0, rfl, h1, h2, h3⟩ := hsrc
  have hlen := flat_len ys hyk
  cases a0 with
  | none =>
    have e3 := h2 rfl
    subst e3
    have e4 : ys = [] := List.eq_nil_of_length_eq_zero (by omega)
    subst e4
    refine wpList_append_own_none hgd s x S ho base _ i k ht hi v _ _ hs hown hx ?_
    exact h v W (by rw [List.append_nil]; exact hown) ⟨rfl, rfl, rfl, Nat.le_refl _, fun _ _ _ => rfl⟩
  | some ad =>
    have hcell : ∀ j u, ys.flatten[j]? = some u → W.cell? (ad.add j) = some u := by
      intro j u hj
      rcases h3 with h3 | ⟨b, off, ea, _, hc⟩
      · subst h3; simp at hj
      · cases ea; rw [Addr.add_lit]; exact hc j u hj
    refine wpList_append_own _ hgd s x S ho base _ i z k bytes ht hi hz hz1 hz2 hzc hk0 v xs.length (xs.flatMap fun cs => cs) hs hown ad ys.length c0 ys.flatten hx hlen hcell (by intro u hu; obtain ⟨y, hy, hu⟩ := List.mem_flatten.1 hu; exact hy1 y hy u hu) hk hk2 hbase ?_
    intro v' w' g1 g2 _
    refine h v' w' ?_ g2
    unfold OwnC OwnK
    rw [List.length_append, List.flatMap_append, flat_id ys]
    exact g1
theorem ownC_lit (k : Nat) (T : TypeId) (w : World) : OwnC k T (w.alloc (.cells #[] T)) w.heap.size (.slice (some ⟨w.heap.size, 0, none⟩) 0 0) [] := World.ownsRow_made w #[] 0 (Nat.le_refl _) (Nat.zero_le _) (by simp)

theorem elem_rec : ElemK 7 103 22 136 := ⟨Tryz.underlying22, _, _, rfl, rfl, rfl, rfl, rfl⟩
set_option maxHeartbeats 2000000 in
theorem clone_rec (v : Value) (css : List (List Value)) (w : World) (hA : SlK w v css) (hk : ∀ cs ∈ css, cs.length = 7) (h1 : ∀ cs ∈ css, ∀ u ∈ cs, u.oneCell' = true) (hl : css.length ≤ 1000000000000) :
    Calls Tryz.prog 150 #[v] w fun e w' => ∃ v', e = .returned v' ∧ OwnC 7 103 w' w.heap.size v' css ∧ Below w.heap.size w w' := by
  obtain ⟨a, c, rfl, hc1, hc2, hx⟩ := id hA
  cases a with
  | none =>
    have hnil : css = [] := List.eq_nil_of_length_eq_zero (by have := hc2 rfl; omega)
    subst hnil
    obtain rfl := hc2 rfl
    clear hc2 hx
    have q := fun w => Lib.run_eql_slice_nil (P := Tryz.prog) w 22 _ none 0 0 0 0 Tryz.underlying22
    go_enter Tryz.func150, Tryz.ntmps150
    go_wp2
    go_ret
    exact ⟨_, rfl, OwnK.nil _ _, Below.refl _ _⟩
  | some ad =>
    have hlit := ownC_lit 7 103 w
    have q := fun w => Lib.run_eql_slice_nil (P := Tryz.prog) w 22 _ (some ad) css.length c 0 0 Tryz.underlying22
    go_enter Tryz.func150, Tryz.ntmps150
    go_wp2_with (at_builtin; refine wpl_append_slk (w.alloc (.cells #[] 103)) rfl (.tmp 5) (.tmp 6) elem_rec (by decide) rfl w.heap.size _ [] rfl hlit _ css rfl (hA.below ((Below.refl _ w).alloc (Nat.le_refl _) _)) hk h1 (by simp) (by unfold maxLen; simp; omega) (by simp; omega) ?_; intro v' w' hown' hg')
    go_ret
    exact ⟨v', rfl, hown', ((Below.refl _ w).alloc (Nat.le_refl _) _).grown hg' (by simp) hlit.base_le⟩

theorem elem_u32 : ElemK 1 35 98 4 := ⟨Tryz.underlying98, _, _, rfl, rfl, rfl, rfl, rfl⟩
set_option maxHeartbeats 2000000 in
theorem clone_u32 (v : Value) (css : List (List Value)) (w : World) (hA : SlK w v css) (hk : ∀ cs ∈ css, cs.length = 1) (h1 : ∀ cs ∈ css, ∀ u ∈ cs, u.oneCell' = true) (hl : css.length ≤ 1000000000000) :
    Calls Tryz.prog 152 #[v] w fun e w' => ∃ v', e = .returned v' ∧ OwnC 1 35 w' w.heap.size v' css ∧ Below w.heap.size w w' := by
  obtain ⟨a, c, rfl, hc1, hc2, hx⟩ := id hA
  cases a with
  | none =>
    have hnil : css = [] := List.eq_nil_of_length_eq_zero (by have := hc2 rfl; omega)
    subst hnil
    obtain rfl := hc2 rfl
    clear hc2 hx
    have q := fun w => Lib.run_eql_slice_nil (P := Tryz.prog) w 98 _ none 0 0 0 0 Tryz.underlying98
    go_enter Tryz.func152, Tryz.ntmps152
    go_wp2
    go_ret
    exact ⟨_, rfl, OwnK.nil _ _, Below.refl _ _⟩
  | some ad =>
    have hlit := ownC_lit 1 35 w
    have q := fun w => Lib.run_eql_slice_nil (P := Tryz.prog) w 98 _ (some ad) css.length c 0 0 Tryz.underlying98
    go_enter Tryz.func152, Tryz.ntmps152
    go_wp2_with (at_builtin; refine wpl_append_slk (w.alloc (.cells #[] 35)) rfl (.tmp 5) (.tmp 6) elem_u32 (by decide) rfl w.heap.size _ [] rfl hlit _ css rfl (hA.below ((Below.refl _ w).alloc (Nat.le_refl _) _)) hk h1 (by simp) (by unfold maxLen; simp; omega) (by simp; omega) ?_; intro v' w' hown' hg')
    go_ret
    exact ⟨v', rfl, hown', ((Below.refl _ w).alloc (Nat.le_refl _) _).grown hg' (by simp) hlit.base_le⟩

theorem elem_str : ElemK 1 9 23 16 := ⟨Tryz.underlying23, _, _, rfl, rfl, rfl, rfl, rfl⟩
set_option maxHeartbeats 2000000 in
theorem clone_str (v : Value) (css : List (List Value)) (w : World) (hA : SlK w v css) (hk : ∀ cs ∈ css, cs.length = 1) (h1 : ∀ cs ∈ css, ∀ u ∈ cs, u.oneCell' = true) (hl : css.length ≤ 1000000000000) :
    Calls Tryz.prog 153 #[v] w fun e w' => ∃ v', e = .returned v' ∧ OwnC 1 9 w' w.heap.size v' css ∧ Below w.heap.size w w' := by
  obtain ⟨a, c, rfl, hc1, hc2, hx⟩ := id hA
  cases a with
  | none =>
    have hnil : css = [] := List.eq_nil_of_length_eq_zero (by have := hc2 rfl; omega)
    subst hnil
    obtain rfl := hc2 rfl
    clear hc2 hx
    have q := fun w => Lib.run_eql_slice_nil (P := Tryz.prog) w 23 _ none 0 0 0 0 Tryz.underlying23
    go_enter Tryz.func153, Tryz.ntmps153
    go_wp2
    go_ret
    exact ⟨_, rfl, OwnK.nil _ _, Below.refl _ _⟩
  | some ad =>
    have hlit := ownC_lit 1 9 w
    have q := fun w => Lib.run_eql_slice_nil (P := Tryz.prog) w 23 _ (some ad) css.length c 0 0 Tryz.underlying23
    go_enter Tryz.func153, Tryz.ntmps153
    go_wp2_with (at_builtin; refine wpl_append_slk (w.alloc (.cells #[] 9)) rfl (.tmp 5) (.tmp 6) elem_str (by decide) rfl w.heap.size _ [] rfl hlit _ css rfl (hA.below ((Below.refl _ w).alloc (Nat.le_refl _) _)) hk h1 (by simp) (by unfold maxLen; simp; omega) (by simp; omega) ?_; intro v' w' hown' hg')
    go_ret
    exact ⟨v', rfl, hown', ((Below.refl _ w).alloc (Nat.le_refl _) _).grown hg' (by simp) hlit.base_le⟩

theorem elem_byte : ElemK 1 5 99 1 := ⟨Tryz.underlying99, _, _, rfl, rfl, rfl, rfl, rfl⟩
set_option maxHeartbeats 2000000 in
theorem clone_byte (v : Value) (css : List (List Value)) (w : World) (hA : SlK w v css) (hk : ∀ cs ∈ css, cs.length = 1) (h1 : ∀ cs ∈ css, ∀ u ∈ cs, u.oneCell' = true) (hl : css.length ≤ 1000000000000) :
    Calls Tryz.prog 154 #[v] w fun e w' => ∃ v', e = .returned v' ∧ OwnC 1 5 w' w.heap.size v' css ∧ Below w.heap.size w w' := by
  obtain ⟨a, c, rfl, hc1, hc2, hx⟩ := id hA
  cases a with
  | none =>
    have hnil : css = [] := List.eq_nil_of_length_eq_zero (by have := hc2 rfl; omega)
    subst hnil
    obtain rfl := hc2 rfl
    clear hc2 hx
    have q := fun w => Lib.run_eql_slice_nil (P := Tryz.prog) w 99 _ none 0 0 0 0 Tryz.underlying99
    go_enter Tryz.func154, Tryz.ntmps154
    go_wp2
    go_ret
    exact ⟨_, rfl, OwnK.nil _ _, Below.refl _ _⟩
  | some ad =>
    have hlit := ownC_lit 1 5 w
    have q := fun w => Lib.run_eql_slice_nil (P := Tryz.prog) w 99 _ (some ad) css.length c 0 0 Tryz.underlying99
    go_enter Tryz.func154, Tryz.ntmps154
    go_wp2_with (at_builtin; refine wpl_append_slk (w.alloc (.cells #[] 5)) rfl (.tmp 5) (.tmp 6) elem_byte (by decide) rfl w.heap.size _ [] rfl hlit _ css rfl (hA.below ((Below.refl _ w).alloc (Nat.le_refl _) _)) hk h1 (by simp) (by unfold maxLen; simp; omega) (by simp; omega) ?_; intro v' w' hown' hg')
    go_ret
    exact ⟨v', rfl, hown', ((Below.refl _ w).alloc (Nat.le_refl _) _).grown hg' (by simp) hlit.base_le⟩
end Go.Proofs.YtckammgnmgkieaaGreat

