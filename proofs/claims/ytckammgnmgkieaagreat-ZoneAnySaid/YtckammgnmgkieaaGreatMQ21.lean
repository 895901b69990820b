/-
  The document's zone (ref.has, CutOf, Exists, Encloser), plain: it is the program's.
-/
import Derived.Test.YtckammgnmgkieaaGreatMQ36
import Derived.Test.YtckammgnmgkieaaGreatMQ13
import Derived.Test.YtckammgnmgkieaaGreatMQ22
import Derived.Deep.RegionHeld3
import Derived.Test.YtckammgnmgkieaaGreatMQ17
import Derived.Test.YtckammgnmgkieaaGreatMQ39
import Derived.Test.YtckammgnmgkieaaGreatMQ20
import Derived.Maps.OwnOps
import Derived.Maps.Views
import Derived.Deep.CutRange
import Derived.Test.YtckammgnmgkieaaGreatMQ19
import Derived.Test.YtckammgnmgkieaaGreatMQ29
import Derived.Test.YtckammgnmgkieaaGreatMQ12
namespace Go.Proofs.YtckammgnmgkieaaGreat
set_option maxRecDepth 20000
open Go.RowKit
set_option linter.unusedVariables false
set_option linter.unusedSimpArgs false
def hasM (rs : List Rc) (n : Nm) (t : Int) : Bool := rs.any fun r => decide (r.data.ty = t) && sameN r.owner n
theorem owner_ancR {q w : Nm} {s : Nat} (hs : s ≤ q.length) : sameN w (ancN q s) = (underN q w && decide (w.length = s)) := by
  rw [Bool.eq_iff_iff, Bool.and_eq_true, decide_eq_true_eq]
  constructor
  · intro h
    have hl : w.length = s := by
      have := (sameN_iff _ _).1 h
      have := congrArg List.length this
      rw [foldN_len, foldN_len, ancN_len hs] at this; exact this
    exact ⟨under_of_same (by rw [hl, sameN_symm]; exact h), hl⟩
  · rintro ⟨h, rfl⟩
    rw [sameN_symm]; exact under_same h
theorem has_point {rs : List Rc} {q : Nm} {s : Nat} (hs : s ≤ q.length) : (pointM rs q).contains s = hasM rs (ancN q s) 2 := by
  rw [point_has]
  unfold hasM
  congr 1
  funext r
  rw [owner_ancR hs, Bool.and_assoc]
theorem cutR_none {o n : Nm} {rs : List Rc} (h : ∀ s, o.length < s → s ≤ n.length → hasM rs (ancN n s) 2 = false) : cutM o rs n = none := by
  unfold cutM
  split
  · rw [List.find?_eq_none]
    intro s hs
    rw [List.mem_range'_1] at hs
    rw [has_point (by omega), h s (by omega) (by omega)]
    simp
  · rfl
theorem cutR_some {o n : Nm} {rs : List Rc} {s : Nat} (hu : underN n o = true) (h1 : o.length < s) (h2 : s ≤ n.length) (hh : hasM rs (ancN n s) 2 = true) (h : ∀ j, o.length < j → j < s → hasM rs (ancN n j) 2 = false) : cutM o rs n = some s := by
  unfold cutM
  rw [if_pos hu, range_split (o.length + 1) (s - (o.length + 1)) _ (by omega), find_append]
  have e1 : (List.range' (o.length + 1) (s - (o.length + 1))).find? (fun s => (pointM rs n).contains s) = none := by
    rw [List.find?_eq_none]
    intro j hj
    rw [List.mem_range'_1] at hj
    rw [has_point (by omega), h j (by omega) (by omega)]
    simp
  rw [e1]
  have e2 : n.length - o.length - (s - (o.length + 1)) = (n.length - s) + 1 := by omega
  rw [e2, List.range'_succ, show o.length + 1 + (s - (o.length + 1)) = s by omega, List.find?_cons, has_point h2, hh]
  rfl
theorem exists_R {o n : Nm} {rs : List Rc} (hu : underN n o = true) : existsM o rs n = (sameN n o || rs.any fun r => underN r.owner n) := by
  rw [Bool.eq_iff_iff, existsM_iff hu, Bool.or_eq_true, List.any_eq_true]
  have hs : n.length = o.length ↔ sameN n o = true := by
    constructor
    · intro e
      have := under_same hu
      rw [← e, ancN_all] at this; exact this
    · intro h
      have := congrArg List.length ((sameN_iff _ _).1 h)
      rwa [foldN_len, foldN_len] at this
  rw [hs]
theorem enc_some {o n : Nm} {rs : List Rc} {s : Nat} (hs : s ≤ n.length) (he : existsM o rs (ancN n s) = true) (h : ∀ j, s < j → j ≤ n.length → existsM o rs (ancN n j) = false) : encM o rs n = ancN n s := by
  have hua : underN (ancN n s) o = true := by
    unfold existsM at he; simp only [Bool.and_eq_true] at he; exact he.1
  have hu : underN n o = true := underN_trans (under_anc n s) hua
  have hol := underN_len hua
  rw [ancN_len hs] at hol
  have hl := underN_len hu
  obtain ⟨d1, d2, d3, d4⟩ := depthM_spec rs hl
  unfold encM
  rw [if_pos hu]
  have hlt : depthM o rs n ≤ s := by
    by_cases hc : depthM o rs n ≤ s
    · exact hc
    · exfalso
      have := h (depthM o rs n) (by omega) d2
      have he2 := enc_exists (rs := rs) hu
      unfold encM at he2
      rw [if_pos hu, this] at he2
      cases he2
  have hge : s ≤ depthM o rs n := by
    rcases (existsM_iff hua).1 he with e | ⟨r, hr, e⟩
    · rw [ancN_len hs] at e; omega
    · exact d4 r hr s hs e
  rw [show depthM o rs n = s by omega]
theorem enc_none {o n : Nm} {rs : List Rc} (h : ∀ j, j ≤ n.length → existsM o rs (ancN n j) = false) : encM o rs n = [] := by
  unfold encM
  split
  · rename_i hu
    exfalso
    have he := enc_exists (rs := rs) hu
    unfold encM at he
    rw [if_pos hu, h _ (depthM_le rs (underN_len hu))] at he
    cases he
  · rfl
end Go.Proofs.YtckammgnmgkieaaGreat

/-
  The document's zone (toponymref17): has, Exists.
-/
namespace Go.Proofs.YtckammgnmgkieaaGreat
set_option maxRecDepth 20000
open Go.RowKit Go.Shelf
set_option maxRecDepth 20000
set_option linter.unusedVariables false
set_option linter.unusedSimpArgs false
theorem ancN_okR {n : Nm} (h : NmOK n) (s : Nat) : NmOK (ancN n s) := ⟨by unfold ancN; rw [List.length_drop]; have := h.1; omega, fun x hx => h.2 x (List.mem_of_mem_drop hx)⟩
theorem drop_ancR {n : Nm} {k : Nat} (h : k ≤ n.length) : n.drop k = ancN n (n.length - k) := by unfold ancN; congr 1; omega
theorem nm_suffix {W : World} {a : Option Addr} {q c : Nat} {n : Nm} (h : NmAt W (.slice a q c) n) {k : Nat} (hk : k ≤ q) :
    (c = k ∧ NmAt W (.slice a (q - k) (c - k)) (n.drop k)) ∨ (¬ c = k ∧ q = 0 ∧ k = 0 ∧ (∃ ad, a = some ad) ∧ NmAt W (.slice a (q - k) (c - k)) (n.drop k)) ∨ (¬ c = k ∧ 0 < q ∧ ∃ g off, a = some ⟨g, off, none⟩ ∧ NmAt W (.slice (some ⟨g, off + k, none⟩) (q - k) (c - k)) (n.drop k)) := by
  have hq := nm_len h
  have hc := nm_cap h
  have h0 := h.1
  have h1 := h.2
  obtain ⟨a1, n1, c1, e1, hc1, hn1⟩ := h1
  injection e1 with ea en ec
  subst ea en ec
  by_cases e : c = k
  · left
    have hqk : q = k := by omega
    have hd : n.drop k = [] := List.drop_eq_nil_of_le (by omega)
    refine ⟨e, ⟨⟨a, c - k, by rw [hd]; congr 1; simp; omega, .inl hd⟩, ⟨a, _, _, rfl, by omega, fun ha => by have := hn1 ha; omega⟩⟩⟩
  · right
    by_cases hz : q = 0
    · left
      have hk0 : k = 0 := by omega
      have hn0 : n = [] := List.eq_nil_of_length_eq_zero (by omega)
      refine ⟨e, hz, hk0, ?_, ?_⟩
      · cases a with
        | none => exact absurd (hn1 rfl) (by omega)
        | some ad => exact ⟨ad, rfl⟩
      · rw [hk0, hn0]; rw [hn0] at h; exact h
    · right
      refine ⟨e, by omega, ?_⟩
      obtain ⟨a2, c2, e2, hx⟩ := h0
      injection e2 with e3 e4 e5
      rcases hx with hx | ⟨g, off, hx, _⟩
      · rw [hx] at hq; simp at hq; omega
      · subst e3
        subst hx
        refine ⟨g, off, rfl, ?_⟩
        have h9 := h.1
        subst hq
        have hd := strs_drop h9 hc k hk (c - k)
        rw [if_neg e] at hd
        exact ⟨hd, ⟨_, _, _, rfl, by omega, fun e => by cases e⟩⟩
set_option maxRecDepth 100000 in
set_option maxHeartbeats 8000000 in
theorem ref_has {w : World} {za v1 : Option Addr} {zn zc m c : Nat} {o n : Nm} {rs : List Rc} {vn : Value} (t : Int) (h : ZonS w za zn zc v1 m c o rs) (hO : NmAt w vn n) (hko : NmOK n) :
    Calls Tryz.prog 74 #[.agg #[.slice za zn zc, .slice v1 m c], vn, .int .i64 t] w fun e w' => e = .returned (.bool (hasM rs n t)) ∧ Below w.heap.size w w' := by
  obtain ⟨-, -, ⟨css, hA, hR⟩, hOK, hl⟩ := h
  obtain ⟨hln, hx⟩ : css.length = m ∧ m ≤ c := by
    obtain ⟨a', c', e, h1, _⟩ := id hA
    cases e; exact ⟨rfl, h1⟩
  have HSO := Lib.hid (show hasM rs n t = rs.any fun r => decide (r.data.ty = t) && sameN r.owner n from rfl)
  have HA := Lib.hid hA; have HR := Lib.hid hR; have HLN := Lib.hid hln; have HOK := Lib.hid hOK
  have HDL := Lib.hid (show rs.length = m by rw [← hR.1]; exact hln)
  have HNO := Lib.hid hO; have HKN := Lib.hid hko
  obtain ⟨ao, co, rfl, -⟩ := nmAt_sl.1 hO
  generalize (List.map strV n).length = qo at *
  generalize hasM rs n t = res at *
  have X0 := knew w (.cells #[.slice za zn zc, .slice v1 m c] 60)
  have HB0 := Lib.hid ((Below.refl w.heap.size w).alloc (Nat.le_refl _) (.cells #[.slice za zn zc, .slice v1 m c] 60))
  obtain ⟨w2, hw2⟩ : ∃ w2, w.alloc (.cells #[.slice za zn zc, .slice v1 m c] 60) = w2 := ⟨_, rfl⟩
  rw [hw2] at X0 HB0
  have HY := Lib.hid (fun W (hb : Below w2.heap.size w2 W) => And.intro (kcell ((hb.block _ (kblock_lt X0)).trans X0) 0 _ rfl) (kcell ((hb.block _ (kblock_lt X0)).trans X0) 1 _ rfl))
  clear hO hko hA hR hOK hln X0
  go_enter Tryz.func74, Tryz.ntmps74
  go_wp2
  clear hw2
  go_loopw [7] (fun vi wr => ∃ k : Nat, vi = .int .i64 k ∧ k ≤ m ∧ Hid (((rs.take k).any fun r => decide (r.data.ty = t) && sameN r.owner n) = false) ∧ Hid (Below w2.heap.size w2 wr)) (fun vi _ => m - (intOf vi).toNat)
  case atStart => exact ⟨0, rfl, Nat.zero_le _, Lib.hid (by simp), Lib.hid (Below.refl _ _)⟩
  case round =>
    obtain ⟨k, rfl, hk, HN, HB⟩ := hrel
    obtain ⟨y0, y1⟩ := HY.out wr HB.out
    by_cases hlt : k < m
    · have hltz : (k : Int) < (m : Int) := by omega
      have hk1 : k < css.length := by have := HLN.out; omega
      have hk2 : k < rs.length := by have := HDL.out; omega
      obtain ⟨b, off, rfl, hb, hel⟩ := HA.out.elem HR.out.ck (by omega)
      have h0 := HR.out.2 k hk1 hk2
      have hokr := (HOK.out _ (List.getElem_mem hk2)).1
      have hany := any_succ (p := fun r => decide (r.data.ty = t) && sameN r.owner n) hk2
      obtain ⟨d, hd⟩ : ∃ d, rs[k]'hk2 = d := ⟨_, rfl⟩
      have hdm : d ∈ rs := by rw [← hd]; exact List.getElem_mem _
      rw [hd] at h0 hokr hany
      rw [HN.out, Bool.false_or] at hany
      have hsh := h0.shape
      obtain ⟨⟨p0, q0, k0⟩, ⟨p3, q3, k3⟩, ⟨p4, q4, k4⟩, ⟨p5, q5, k5⟩, ⟨p6, q6, k6⟩, e0⟩ := hsh
      simp only at e0
      have hwr : Below w.heap.size w wr := HB0.out.trans (HB.out.mono HB0.out.size)
      obtain ⟨c0', c1', c2', c3, c4, c5, c6⟩ := hel k hk1 _ _ _ _ _ _ _ e0 wr hwr
      have hown0 : NmAt w (.slice p0 q0 k0) d.owner := by
        obtain ⟨_, _, _, _, _, e5, g1, _⟩ := h0
        rw [e0] at e5
        simp only [List.cons.injEq, and_true] at e5
        rw [e5.1]; exact g1
      have hn := kn_RSame (.slice p0 q0 k0) (.slice ao qo co) d.owner n _ rfl _ (hown0.below hwr) (HNO.out.below hwr) hokr HKN.out
      have HANY := Lib.hid hany; have HDM := Lib.hid hdm
      clear h0 hd e0 hel hown0 hokr hany hdm hk1 hk2 hwr c1' c3 c4 c5 c6
      obtain ⟨ty, hty⟩ : ∃ ty, d.data.ty = ty := ⟨_, rfl⟩
      have HTY := Lib.hid hty
      rw [hty] at c2'
      clear hty
      by_cases ht : ty = t
      · subst ht
        go_wp2_with fail
        refine hn.mono ?_
        rintro e w3 ⟨rfl, hb3⟩
        have HB3 := Lib.hid (HB.out.trans (hb3.mono HB.out.size))
        clear hn hb3 c0' c2' y0 y1
        obtain ⟨q, hq⟩ : ∃ q, sameN d.owner n = q := ⟨_, rfl⟩
        have HQ := Lib.hid hq
        rw [hq] at HANY ⊢
        clear hq
        cases q
        · go_wp2
          go_roundw
          case measure => simp [intOf]; omega
          case rel => exact ⟨k + 1, by go_num, by omega, Lib.hid (by rw [HANY.out, Bool.and_false]), HB3⟩
        · have H1 : Hid (res = true) := Lib.hid (by rw [HSO.out, List.any_eq_true]; exact ⟨d, HDM.out, by rw [HQ.out, HTY.out]; simp⟩)
          go_wp2
          go_ret
          exact ⟨by rw [H1.out]; rfl, HB0.out.trans (HB3.out.mono HB0.out.size)⟩
      · have htn : (ty == t) = false := by simpa using ht
        have HF := Lib.hid (show decide (d.data.ty = t) = false by rw [HTY.out]; simpa using ht)
        clear hn
        go_wp2
        go_roundw
        case measure => simp [intOf]; omega
        case rel => exact ⟨k + 1, by go_num, by omega, Lib.hid (by rw [HANY.out, HF.out, Bool.false_and]), HB⟩
    · obtain rfl : k = m := by omega
      have hn := HN.out
      rw [List.take_of_length_le (by have := HDL.out; omega)] at hn
      have H1 : Hid (res = false) := Lib.hid (by rw [HSO.out]; exact hn)
      clear hn
      go_wp2
      go_ret
      exact ⟨by rw [H1.out]; rfl, HB0.out.trans (HB.out.mono HB0.out.size)⟩
set_option maxRecDepth 100000 in
set_option maxHeartbeats 8000000 in
theorem ref_Exists {w : World} {za v1 : Option Addr} {zn zc m c : Nat} {o n : Nm} {rs : List Rc} {vn : Value} (h : ZonS w za zn zc v1 m c o rs) (hO : NmAt w vn n) (hko : NmOK n) :
    Calls Tryz.prog 38 #[.agg #[.slice za zn zc, .slice v1 m c], vn] w fun e w' => e = .returned (.bool (existsM o rs n)) ∧ Below w.heap.size w w' := by
  have HZU := Lib.hid (fun (W : World) (hb : Below w.heap.size w W) => kn_RUnder vn (.slice za zn zc) n o _ rfl W (hO.below hb) (h.1.below hb) hko h.2.1)
  have HZS := Lib.hid (fun (W : World) (hb : Below w.heap.size w W) => kn_RSame vn (.slice za zn zc) n o _ rfl W (hO.below hb) (h.1.below hb) hko h.2.1)
  have HEX := Lib.hid (fun (hu : underN n o = true) => exists_R (rs := rs) hu)
  have HEF := Lib.hid (fun (hu : underN n o = false) => (show existsM o rs n = false by unfold existsM; rw [hu, Bool.false_and]))
  obtain ⟨-, -, ⟨css, hA, hR⟩, hOK, hl⟩ := h
  obtain ⟨hln, hx⟩ : css.length = m ∧ m ≤ c := by
    obtain ⟨a', c', e, h1, _⟩ := id hA
    cases e; exact ⟨rfl, h1⟩
  have HA := Lib.hid hA; have HR := Lib.hid hR; have HLN := Lib.hid hln; have HOK := Lib.hid hOK
  have HDL := Lib.hid (show rs.length = m by rw [← hR.1]; exact hln)
  have HNO := Lib.hid hO; have HKN := Lib.hid hko
  obtain ⟨ao, co, rfl, -⟩ := nmAt_sl.1 hO
  generalize (List.map strV n).length = qo at *
  generalize existsM o rs n = res at *
  have X0 := knew w (.cells #[.slice za zn zc, .slice v1 m c] 60)
  have HB0 := Lib.hid ((Below.refl w.heap.size w).alloc (Nat.le_refl _) (.cells #[.slice za zn zc, .slice v1 m c] 60))
  obtain ⟨w2, hw2⟩ : ∃ w2, w.alloc (.cells #[.slice za zn zc, .slice v1 m c] 60) = w2 := ⟨_, rfl⟩
  rw [hw2] at X0 HB0
  have HY := Lib.hid (fun W (hb : Below w2.heap.size w2 W) => And.intro (kcell ((hb.block _ (kblock_lt X0)).trans X0) 0 _ rfl) (kcell ((hb.block _ (kblock_lt X0)).trans X0) 1 _ rfl))
  have hcu := HZU.out w2 HB0.out
  obtain ⟨y0, y1⟩ := HY.out w2 (Below.refl _ _)
  clear hO hko hA hR hOK hln X0 HZU
  go_enter Tryz.func38, Tryz.ntmps38
  go_wp2_with fail
  clear hw2
  refine hcu.mono ?_
  rintro e w3 ⟨rfl, hb3⟩
  have HB3 := Lib.hid hb3
  clear hcu y0 y1 hb3
  obtain ⟨u, hu⟩ : ∃ u, underN n o = u := ⟨_, rfl⟩
  rw [hu] at HEX HEF ⊢
  clear hu
  cases u
  · have H1 := Lib.hid (HEF.out rfl)
    go_wp2
    go_ret
    exact ⟨by rw [H1.out]; rfl, HB0.out.trans (HB3.out.mono HB0.out.size)⟩
  have HE2 := Lib.hid (HEX.out rfl)
  have hcs := HZS.out w3 (HB0.out.trans (HB3.out.mono HB0.out.size))
  obtain ⟨y0, y1⟩ := HY.out w3 HB3.out
  clear HEX HEF HZS
  go_wp2_with fail
  refine hcs.mono ?_
  rintro e w4 ⟨rfl, hb4⟩
  have HB4 := Lib.hid (HB3.out.trans (hb4.mono HB3.out.size))
  clear hcs y0 y1 hb4 HB3
  obtain ⟨u, hu⟩ : ∃ u, sameN n o = u := ⟨_, rfl⟩
  rw [hu] at HE2 ⊢
  clear hu
  cases u
  rotate_left
  · have H1 : Hid (res = true) := Lib.hid (by rw [HE2.out]; rfl)
    go_wp2
    go_ret
    exact ⟨by rw [H1.out]; rfl, HB0.out.trans (HB4.out.mono HB0.out.size)⟩
  have HSO : Hid (res = rs.any fun r => underN r.owner n) := Lib.hid (by rw [HE2.out, Bool.false_or])
  clear HE2
  go_wp2
  go_loopw [5] (fun vi wr => ∃ k : Nat, vi = .int .i64 k ∧ k ≤ m ∧ Hid (((rs.take k).any fun r => underN r.owner n) = false) ∧ Hid (Below w4.heap.size w4 wr)) (fun vi _ => m - (intOf vi).toNat)
  case atStart => exact ⟨0, rfl, Nat.zero_le _, Lib.hid (by simp), Lib.hid (Below.refl _ _)⟩
  case round =>
    obtain ⟨k, rfl, hk, HN, HB⟩ := hrel
    have HBx := Lib.hid (HB4.out.trans (HB.out.mono HB4.out.size))
    obtain ⟨y0, y1⟩ := HY.out wr HBx.out
    by_cases hlt : k < m
    · have hltz : (k : Int) < (m : Int) := by omega
      have hk1 : k < css.length := by have := HLN.out; omega
      have hk2 : k < rs.length := by have := HDL.out; omega
      obtain ⟨b, off, rfl, hb, hel⟩ := HA.out.elem HR.out.ck (by omega)
      have h0 := HR.out.2 k hk1 hk2
      have hokr := (HOK.out _ (List.getElem_mem hk2)).1
      have hany := any_succ (p := fun r => underN r.owner n) hk2
      obtain ⟨d, hd⟩ : ∃ d, rs[k]'hk2 = d := ⟨_, rfl⟩
      have hdm : d ∈ rs := by rw [← hd]; exact List.getElem_mem _
      rw [hd] at h0 hokr hany
      rw [HN.out, Bool.false_or] at hany
      have hsh := h0.shape
      obtain ⟨⟨p0, q0, k0⟩, ⟨p3, q3, k3⟩, ⟨p4, q4, k4⟩, ⟨p5, q5, k5⟩, ⟨p6, q6, k6⟩, e0⟩ := hsh
      simp only at e0
      have hwr : Below w.heap.size w wr := HB0.out.trans (HBx.out.mono HB0.out.size)
      obtain ⟨c0', c1', c2', c3, c4, c5, c6⟩ := hel k hk1 _ _ _ _ _ _ _ e0 wr hwr
      have hown0 : NmAt w (.slice p0 q0 k0) d.owner := by
        obtain ⟨_, _, _, _, _, e5, g1, _⟩ := h0
        rw [e0] at e5
        simp only [List.cons.injEq, and_true] at e5
        rw [e5.1]; exact g1
      have hn := kn_RUnder (.slice p0 q0 k0) (.slice ao qo co) d.owner n _ rfl _ (hown0.below hwr) (HNO.out.below hwr) hokr HKN.out
      have HANY := Lib.hid hany; have HDM := Lib.hid hdm
      clear h0 hd e0 hel hown0 hokr hany hdm hk1 hk2 hwr c1' c2' c3 c4 c5 c6
      go_wp2_with fail
      refine hn.mono ?_
      rintro e w5 ⟨rfl, hb5⟩
      have HB5 := Lib.hid (HB.out.trans (hb5.mono HB.out.size))
      clear hn hb5 c0' y0 y1
      obtain ⟨q, hq⟩ : ∃ q, underN d.owner n = q := ⟨_, rfl⟩
      have HQ := Lib.hid hq
      rw [hq] at HANY ⊢
      clear hq
      cases q
      · go_wp2
        go_roundw
        case measure => simp [intOf]; omega
        case rel => exact ⟨k + 1, by go_num, by omega, HANY, HB5⟩
      · have H1 : Hid (res = true) := Lib.hid (by rw [HSO.out, List.any_eq_true]; exact ⟨d, HDM.out, HQ.out⟩)
        go_wp2
        go_ret
        exact ⟨by rw [H1.out]; rfl, HB0.out.trans ((HB4.out.trans (HB5.out.mono HB4.out.size)).mono HB0.out.size)⟩
    · obtain rfl : k = m := by omega
      have hn := HN.out
      rw [List.take_of_length_le (by have := HDL.out; omega)] at hn
      have H1 : Hid (res = false) := Lib.hid (by rw [HSO.out]; exact hn)
      clear hn
      go_wp2
      go_ret
      exact ⟨by rw [H1.out]; rfl, HB0.out.trans (HBx.out.mono HB0.out.size)⟩
end Go.Proofs.YtckammgnmgkieaaGreat

/-
  The document's zone (toponymref17): Encloser, CutOf, Where, Source.
-/
namespace Go.Proofs.YtckammgnmgkieaaGreat
set_option maxRecDepth 20000
open Go.RowKit Go.Shelf
set_option maxRecDepth 20000
set_option linter.unusedVariables false
set_option linter.unusedSimpArgs false
set_option maxRecDepth 100000 in
set_option maxHeartbeats 8000000 in
theorem ref_Encloser {w : World} {za v1 : Option Addr} {zn zc m c : Nat} {o n : Nm} {rs : List Rc} {vn : Value} (h : ZonS w za zn zc v1 m c o rs) (hO : NmAt w vn n) (hko : NmOK n) :
    Calls Tryz.prog 40 #[.agg #[.slice za zn zc, .slice v1 m c], vn] w (EncPost w (encM o rs n)) := by
  obtain ⟨ao, cn, rfl, -⟩ := nmAt_sl.1 hO
  obtain ⟨qn, hqn⟩ : ∃ q, (List.map strV n).length = q := ⟨_, rfl⟩
  have HQN := Lib.hid (show n.length = qn by rw [← hqn, List.length_map])
  rw [hqn] at hO  ⊢
  clear hqn
  have HNO := Lib.hid hO; have HKN := Lib.hid hko
  have X0 := knew w (.cells #[.slice za zn zc, .slice v1 m c] 60)
  have HB0 := Lib.hid ((Below.refl w.heap.size w).alloc (Nat.le_refl _) (.cells #[.slice za zn zc, .slice v1 m c] 60))
  obtain ⟨w2, hw2⟩ : ∃ w2, w.alloc (.cells #[.slice za zn zc, .slice v1 m c] 60) = w2 := ⟨_, rfl⟩
  obtain ⟨B, hB⟩ : ∃ B, w.heap.size = B := ⟨_, rfl⟩
  have hHB : Below w.heap.size w w2 := by rw [← hw2]; exact HB0.out
  have HB0 := Lib.hid hHB
  rw [hw2, hB] at X0
  have HY := Lib.hid (fun W (hb : Below w2.heap.size w2 W) => And.intro (kcell ((hb.block _ (kblock_lt X0)).trans X0) 0 _ rfl) (kcell ((hb.block _ (kblock_lt X0)).trans X0) 1 _ rfl))
  have HZ := Lib.hid (fun W (hb : Below w2.heap.size w2 W) => h.below (hHB.trans (hb.mono hHB.size)))
  have KS := Lib.hid (fun W W' (hS : W.cell? ⟨B, 0, none⟩ = some (.slice za zn zc) ∧ W.cell? ⟨B, 1, none⟩ = some (.slice v1 m c) ∧ Below w2.heap.size w2 W) (hb : Below W.heap.size W W') => (show W'.cell? ⟨B, 0, none⟩ = some (.slice za zn zc) ∧ W'.cell? ⟨B, 1, none⟩ = some (.slice v1 m c) ∧ Below w2.heap.size w2 W' from ⟨(HY.out W' (hS.2.2.trans (hb.mono hS.2.2.size))).1, (HY.out W' (hS.2.2.trans (hb.mono hS.2.2.size))).2, hS.2.2.trans (hb.mono hS.2.2.size)⟩))
  have HENC := Lib.hid (fun k (hk : k ≤ qn) (he : existsM o rs (n.drop k) = true) (hn : ∀ j, j < k → existsM o rs (n.drop j) = false) => (show encM o rs n = n.drop k from by
    have hq := HQN.out
    rw [drop_ancR (by omega)] at he ⊢
    refine enc_some (by omega) he (fun j hj hj2 => ?_)
    have := hn (n.length - j) (by omega)
    rw [drop_ancR (by omega)] at this
    rwa [show n.length - (n.length - j) = j by omega] at this))
  have HENN := Lib.hid (fun (hn : ∀ j, j < qn + 1 → existsM o rs (n.drop j) = false) => (show encM o rs n = [] from by
    have hq := HQN.out
    refine enc_none (fun j hj => ?_)
    have := hn (n.length - j) (by omega)
    rw [drop_ancR (by omega)] at this
    rwa [show n.length - (n.length - j) = j by omega] at this))
  clear h hO hko X0 hHB
  go_enter Tryz.func40, Tryz.ntmps40
  go_wp2
  clear hw2 hB
  go_loopw [5] (fun vi wr => ∃ k : Nat, vi = .int .i64 k ∧ k ≤ qn + 1 ∧ Hid (∀ j, j < k → existsM o rs (n.drop j) = false) ∧ Hid (Below w2.heap.size w2 wr)) (fun vi _ => qn + 1 - (intOf vi).toNat)
  case atStart => exact ⟨0, rfl, by omega, Lib.hid (fun j hj => by omega), Lib.hid (Below.refl _ _)⟩
  case round =>
    obtain ⟨k, rfl, hk, HN, HB⟩ := hrel
    obtain ⟨y0, y1⟩ := HY.out wr HB.out
    by_cases hlt : k ≤ qn
    · have hltz : (k : Int) ≤ (qn : Int) := by omega
      have hqn20 : qn ≤ 1048576 := by have := HKN.out.1; have := HQN.out; omega
      have hkz : (0 : Int) ≤ (k : Int) := by omega
      have hqc : qn ≤ cn := nm_cap HNO.out
      have hkcz : (k : Int) ≤ (cn : Int) := by omega
      have hqcz : (qn : Int) ≤ (cn : Int) := by omega
      have hS0 : wr.drew.cell? ⟨B, 0, none⟩ = some (.slice za zn zc) ∧ wr.drew.cell? ⟨B, 1, none⟩ = some (.slice v1 m c) ∧ Below w2.heap.size w2 wr.drew := ⟨y0, y1, HB.out.trans ⟨rfl, rfl, rfl, Nat.le_refl _, fun _ _ => rfl⟩⟩
      have HKO' := Lib.hid (show NmOK (n.drop k) by rw [drop_ancR (by have := HQN.out; omega)]; exact ancN_okR HKN.out _)
      have hsuf := nm_suffix HNO.out hlt
      rcases hsuf with ⟨hck, hm⟩ | ⟨hck, hq0, hk0, ⟨ad, rfl⟩, hm⟩ | ⟨hck, hq0, g, off, rfl, hm⟩
      · subst hck
        obtain rfl : qn = cn := by omega
        simp only [Nat.sub_self] at hm
        have HC := Lib.hid (fun (W : World) (hS : W.cell? ⟨B, 0, none⟩ = some (.slice za zn zc) ∧ W.cell? ⟨B, 1, none⟩ = some (.slice v1 m c) ∧ Below w2.heap.size w2 W) => ref_Exists (HZ.out W hS.2.2) (hm.below (HB0.out.trans (hS.2.2.mono HB0.out.size))) HKO'.out)
        have HM := Lib.hid (fun (W : World) (hb : Below w2.heap.size w2 W) => hm.below (HB0.out.trans (hb.mono HB0.out.size)))
        clear hm
        go_wp2_with fail
        go_region_held3 (fun W => W.cell? ⟨B, 0, none⟩ = some (.slice za zn zc) ∧ W.cell? ⟨B, 1, none⟩ = some (.slice v1 m c) ∧ Below w2.heap.size w2 W) (first | with_reducible assumption)
          (first | ((with_reducible refine (HC.out _ (by with_reducible assumption)).mono ?_); rintro e w9 ⟨rfl, hb9⟩; have hS9 := KS.out _ _ (by with_reducible assumption) hb9; clear hb9))
        have HB9 := Lib.hid hS9.2.2
        clear hS9 HC hS0 y0 y1
        obtain ⟨E, hE⟩ : ∃ E, existsM o rs (n.drop qn) = E := ⟨_, rfl⟩
        have HE := Lib.hid hE
        rw [hE]
        clear hE
        cases E
        · go_wp2
          go_roundw
          case measure => simp [intOf]
          case rel => exact ⟨qn + 1, by go_num, by omega, Lib.hid (fun j hj => by
            rcases Nat.lt_or_ge j qn with h | h
            · exact HN.out j h
            · obtain rfl : j = qn := by omega
              exact HE.out), HB9⟩
        · have H1 : Hid (encM o rs n = n.drop qn) := Lib.hid (HENC.out qn (by omega) HE.out HN.out)
          go_wp2
          go_ret
          exact ⟨_, _, _, rfl, by rw [H1.out]; exact HM.out _ HB9.out, HB0.out.trans (HB9.out.mono HB0.out.size)⟩
      · subst hk0
        subst hq0
        simp only [Nat.sub_zero] at hm
        have HC := Lib.hid (fun (W : World) (hS : W.cell? ⟨B, 0, none⟩ = some (.slice za zn zc) ∧ W.cell? ⟨B, 1, none⟩ = some (.slice v1 m c) ∧ Below w2.heap.size w2 W) => ref_Exists (HZ.out W hS.2.2) (hm.below (HB0.out.trans (hS.2.2.mono HB0.out.size))) HKO'.out)
        have HM := Lib.hid (fun (W : World) (hb : Below w2.heap.size w2 W) => hm.below (HB0.out.trans (hb.mono HB0.out.size)))
        clear hm
        go_wp2_with fail
        go_region_held3 (fun W => W.cell? ⟨B, 0, none⟩ = some (.slice za zn zc) ∧ W.cell? ⟨B, 1, none⟩ = some (.slice v1 m c) ∧ Below w2.heap.size w2 W) (first | with_reducible assumption)
          (first | ((with_reducible refine (HC.out _ (by with_reducible assumption)).mono ?_); rintro e w9 ⟨rfl, hb9⟩; have hS9 := KS.out _ _ (by with_reducible assumption) hb9; clear hb9))
        have HB9 := Lib.hid hS9.2.2
        clear hS9 HC hS0 y0 y1
        obtain ⟨E, hE⟩ : ∃ E, existsM o rs n = E := ⟨_, rfl⟩
        have HE := Lib.hid (show existsM o rs (n.drop 0) = E by rw [List.drop_zero]; exact hE)
        rw [hE]
        clear hE
        cases E
        · go_wp2
          go_roundw
          case measure => simp [intOf]
          case rel => exact ⟨0 + 1, by go_num, by omega, Lib.hid (fun j hj => by
            rcases Nat.lt_or_ge j 0 with h | h
            · exact HN.out j h
            · obtain rfl : j = 0 := by omega
              exact HE.out), HB9⟩
        · have H1 : Hid (encM o rs n = n.drop 0) := Lib.hid (HENC.out 0 (by omega) HE.out HN.out)
          go_wp2
          go_ret
          exact ⟨_, _, _, rfl, by rw [H1.out]; exact HM.out _ HB9.out, HB0.out.trans (HB9.out.mono HB0.out.size)⟩
      · have HC := Lib.hid (fun (W : World) (hS : W.cell? ⟨B, 0, none⟩ = some (.slice za zn zc) ∧ W.cell? ⟨B, 1, none⟩ = some (.slice v1 m c) ∧ Below w2.heap.size w2 W) => ref_Exists (HZ.out W hS.2.2) (hm.below (HB0.out.trans (hS.2.2.mono HB0.out.size))) HKO'.out)
        have HM := Lib.hid (fun (W : World) (hb : Below w2.heap.size w2 W) => hm.below (HB0.out.trans (hb.mono HB0.out.size)))
        clear hm
        go_wp2_with fail
        go_region_held3 (fun W => W.cell? ⟨B, 0, none⟩ = some (.slice za zn zc) ∧ W.cell? ⟨B, 1, none⟩ = some (.slice v1 m c) ∧ Below w2.heap.size w2 W) (first | with_reducible assumption)
          (first | ((with_reducible refine (HC.out _ (by with_reducible assumption)).mono ?_); rintro e w9 ⟨rfl, hb9⟩; have hS9 := KS.out _ _ (by with_reducible assumption) hb9; clear hb9))
        have HB9 := Lib.hid hS9.2.2
        clear hS9 HC hS0 y0 y1
        obtain ⟨E, hE⟩ : ∃ E, existsM o rs (n.drop k) = E := ⟨_, rfl⟩
        have HE := Lib.hid hE
        rw [hE]
        clear hE
        cases E
        · go_wp2
          go_roundw
          case measure => simp [intOf]; omega
          case rel => exact ⟨k + 1, by go_num, by omega, Lib.hid (fun j hj => by
            rcases Nat.lt_or_ge j k with h | h
            · exact HN.out j h
            · obtain rfl : j = k := by omega
              exact HE.out), HB9⟩
        · have H1 : Hid (encM o rs n = n.drop k) := Lib.hid (HENC.out k (by omega) HE.out HN.out)
          go_wp2
          go_ret
          exact ⟨_, _, _, rfl, by rw [H1.out]; exact HM.out _ HB9.out, HB0.out.trans (HB9.out.mono HB0.out.size)⟩
    · obtain rfl : k = qn + 1 := by omega
      have H1 : Hid (encM o rs n = []) := Lib.hid (HENN.out HN.out)
      have hltz : ¬ ((qn + 1 : Nat) : Int) ≤ (qn : Int) := by omega
      go_wp2
      go_ret
      exact ⟨none, 0, 0, rfl, by rw [H1.out]; exact nm_nil _, HB0.out.trans (HB.out.mono HB0.out.size)⟩
set_option maxRecDepth 100000 in
set_option maxHeartbeats 8000000 in
theorem ref_CutOf {w : World} {za v1 : Option Addr} {zn zc m c : Nat} {o n : Nm} {rs : List Rc} {vn : Value} (h : ZonS w za zn zc v1 m c o rs) (hO : NmAt w vn n) (hko : NmOK n) :
    Calls Tryz.prog 32 #[.agg #[.slice za zn zc, .slice v1 m c], vn] w (CutPost w n (cutM o rs n)) := by
  have HZU := Lib.hid (fun (W : World) (hb : Below w.heap.size w W) => kn_RUnder vn (.slice za zn zc) n o _ rfl W (hO.below hb) (h.1.below hb) hko h.2.1)
  have HKO := Lib.hid h.2.1
  obtain ⟨ao, cn, rfl, -⟩ := nmAt_sl.1 hO
  obtain ⟨qn, hqn⟩ : ∃ q, (List.map strV n).length = q := ⟨_, rfl⟩
  have HQN := Lib.hid (show n.length = qn by rw [← hqn, List.length_map])
  rw [hqn] at hO HZU ⊢
  clear hqn
  have HNO := Lib.hid hO; have HKN := Lib.hid hko
  have X0 := knew w (.cells #[.slice za zn zc, .slice v1 m c] 60)
  have HB0 := Lib.hid ((Below.refl w.heap.size w).alloc (Nat.le_refl _) (.cells #[.slice za zn zc, .slice v1 m c] 60))
  obtain ⟨w2, hw2⟩ : ∃ w2, w.alloc (.cells #[.slice za zn zc, .slice v1 m c] 60) = w2 := ⟨_, rfl⟩
  obtain ⟨B, hB⟩ : ∃ B, w.heap.size = B := ⟨_, rfl⟩
  have hHB : Below w.heap.size w w2 := by rw [← hw2]; exact HB0.out
  have HB0 := Lib.hid hHB
  rw [hw2, hB] at X0
  have HY := Lib.hid (fun W (hb : Below w2.heap.size w2 W) => And.intro (kcell ((hb.block _ (kblock_lt X0)).trans X0) 0 _ rfl) (kcell ((hb.block _ (kblock_lt X0)).trans X0) 1 _ rfl))
  have HZ := Lib.hid (fun W (hb : Below w2.heap.size w2 W) => h.below (hHB.trans (hb.mono hHB.size)))
  have KS := Lib.hid (fun W W' (hS : W.cell? ⟨B, 0, none⟩ = some (.slice za zn zc) ∧ W.cell? ⟨B, 1, none⟩ = some (.slice v1 m c) ∧ Below w2.heap.size w2 W) (hb : Below W.heap.size W W') => (show W'.cell? ⟨B, 0, none⟩ = some (.slice za zn zc) ∧ W'.cell? ⟨B, 1, none⟩ = some (.slice v1 m c) ∧ Below w2.heap.size w2 W' from ⟨(HY.out W' (hS.2.2.trans (hb.mono hS.2.2.size))).1, (HY.out W' (hS.2.2.trans (hb.mono hS.2.2.size))).2, hS.2.2.trans (hb.mono hS.2.2.size)⟩))
  have HZN := Lib.hid (show zn = o.length from nm_len h.1)
  have hcu := HZU.out w2 hHB
  obtain ⟨y0, y1⟩ := HY.out w2 (Below.refl _ _)
  clear h hO hko X0 hHB HZU
  go_enter Tryz.func32, Tryz.ntmps32
  go_wp2_with fail
  clear hw2 hB
  refine hcu.mono ?_
  rintro e w3 ⟨rfl, hb3⟩
  have HB3 := Lib.hid hb3
  clear hcu y0 y1 hb3
  obtain ⟨u, hu⟩ : ∃ u, underN n o = u := ⟨_, rfl⟩
  have HU := Lib.hid hu
  rw [hu]
  clear hu
  cases u
  · have H1 : Hid (cutM o rs n = none) := Lib.hid (by unfold cutM; rw [HU.out]; rfl)
    go_wp2
    go_ret2
    exact ⟨none, 0, 0, by rw [H1.out]; rfl, by rw [H1.out]; exact nm_nil _, HB0.out.trans (HB3.out.mono HB0.out.size)⟩
  have hqle : zn ≤ qn := by have := underN_len HU.out; have := HQN.out; have := HZN.out; omega
  have hqn20 : qn ≤ 1048576 := by have := HKN.out.1; have := HQN.out; omega
  obtain ⟨y0, y1⟩ := HY.out w3 HB3.out
  have HNONE := Lib.hid (fun (hn : ∀ s, zn < s → s < qn + 1 → hasM rs (ancN n s) 2 = false) => (show cutM o rs n = none from cutR_none (fun s a b => hn s (by have := HZN.out; omega) (by have := HQN.out; omega))))
  have HSOME := Lib.hid (fun (k : Nat) (hk : (k : Int) ≤ (qn : Int) - (zn : Int) - 1) (hh : hasM rs (n.drop k) 2 = true) (hn : ∀ s, zn < s → s < qn - k → hasM rs (ancN n s) 2 = false) => (show cutM o rs n = some (qn - k) from cutR_some HU.out (by have := HZN.out; omega) (by have := HQN.out; omega) (by rw [drop_ancR (by have := HQN.out; omega), HQN.out] at hh; exact hh) (fun j a b => hn j (by have := HZN.out; omega) (by omega))))
  go_wp2
  clear y0 y1
  go_loopw [6] (fun vi wr => ∃ i : Int, vi = .int .i64 i ∧ -1 ≤ i ∧ i ≤ (qn : Int) - (zn : Int) - 1 ∧ Hid (∀ s : Nat, zn < s → (s : Int) < (qn : Int) - i → hasM rs (ancN n s) 2 = false) ∧ Hid (Below w2.heap.size w2 wr)) (fun vi _ => (intOf vi + 1).toNat)
  case atStart => exact ⟨(qn : Int) - (zn : Int) - 1, by go_num, by omega, by omega, Lib.hid (fun s a b => by omega), HB3⟩
  case round =>
    obtain ⟨i, rfl, hi1, hi2, HN, HB⟩ := hrel
    obtain ⟨y0, y1⟩ := HY.out wr HB.out
    by_cases hlt : 0 ≤ i
    · obtain ⟨k, rfl⟩ : ∃ k : Nat, i = (k : Int) := ⟨i.toNat, by omega⟩
      have hkz : (0 : Int) ≤ (k : Int) := by omega
      have hkq : (k : Int) ≤ (qn : Int) := by omega
      have hqc : qn ≤ cn := nm_cap HNO.out
      have hkcz : (k : Int) ≤ (cn : Int) := by omega
      have hqcz : (qn : Int) ≤ (cn : Int) := by omega
      have hS0 : wr.drew.cell? ⟨B, 0, none⟩ = some (.slice za zn zc) ∧ wr.drew.cell? ⟨B, 1, none⟩ = some (.slice v1 m c) ∧ Below w2.heap.size w2 wr.drew := ⟨y0, y1, HB.out.trans ⟨rfl, rfl, rfl, Nat.le_refl _, fun _ _ => rfl⟩⟩
      have HKO' := Lib.hid (show NmOK (n.drop k) by rw [drop_ancR (by have := HQN.out; omega)]; exact ancN_okR HKN.out _)
      have hsuf := nm_suffix HNO.out (show k ≤ qn by omega)
      rcases hsuf with ⟨hck, hm⟩ | ⟨hck, hq0, hk0, ⟨ad, rfl⟩, hm⟩ | ⟨hck, hq0, g, off, rfl, hm⟩
      · omega
      · omega
      · have HC := Lib.hid (fun (W : World) (hS : W.cell? ⟨B, 0, none⟩ = some (.slice za zn zc) ∧ W.cell? ⟨B, 1, none⟩ = some (.slice v1 m c) ∧ Below w2.heap.size w2 W) => ref_has 2 (HZ.out W hS.2.2) (hm.below (HB0.out.trans (hS.2.2.mono HB0.out.size))) HKO'.out)
        have HM := Lib.hid (fun (W : World) (hb : Below w2.heap.size w2 W) => hm.below (HB0.out.trans (hb.mono HB0.out.size)))
        clear hm
        go_wp2_with fail
        go_region_held3 (fun W => W.cell? ⟨B, 0, none⟩ = some (.slice za zn zc) ∧ W.cell? ⟨B, 1, none⟩ = some (.slice v1 m c) ∧ Below w2.heap.size w2 W) (first | with_reducible assumption)
          (first | ((with_reducible refine (HC.out _ (by with_reducible assumption)).mono ?_); rintro e w9 ⟨rfl, hb9⟩; have hS9 := KS.out _ _ (by with_reducible assumption) hb9; clear hb9))
        have HB9 := Lib.hid hS9.2.2
        clear hS9 HC hS0 y0 y1
        obtain ⟨E, hE⟩ : ∃ E, hasM rs (n.drop k) 2 = E := ⟨_, rfl⟩
        have HE := Lib.hid hE
        rw [hE]
        clear hE
        cases E
        · go_wp2
          go_roundw
          case measure => simp [intOf]
          case rel => exact ⟨(k : Int) - 1, by go_num, by omega, by omega, Lib.hid (fun s a b => by
            by_cases hs : (s : Int) < (qn : Int) - (k : Int)
            · exact HN.out s a hs
            · obtain rfl : s = qn - k := by omega
              have := HE.out
              rw [drop_ancR (by have := HQN.out; omega), HQN.out] at this; exact this), HB9⟩
        · have H1 := Lib.hid (HSOME.out k (by omega) HE.out (fun s a b => HN.out s a (by omega)))
          have H2 := Lib.hid (show ancN n (qn - k) = n.drop k by rw [drop_ancR (by have := HQN.out; omega), HQN.out])
          go_wp2
          go_ret2
          exact ⟨_, _, _, by rw [H1.out]; rfl, by rw [H1.out]; show NmAt _ _ (ancN n (qn - k)); rw [H2.out]; exact HM.out _ HB9.out, HB0.out.trans (HB9.out.mono HB0.out.size)⟩
    · obtain rfl : i = -1 := by omega
      have H1 := Lib.hid (HNONE.out (fun s a b => HN.out s a (by omega)))
      go_wp2
      go_ret2
      exact ⟨none, 0, 0, by rw [H1.out]; rfl, by rw [H1.out]; exact nm_nil _, HB0.out.trans (HB.out.mono HB0.out.size)⟩
set_option maxRecDepth 100000 in
set_option maxHeartbeats 8000000 in
theorem ref_Where {w : World} {za v1 : Option Addr} {zn zc m c : Nat} {o n : Nm} {rs : List Rc} {vn : Value} (h : ZonS w za zn zc v1 m c o rs) (hO : NmAt w vn n) (hko : NmOK n) :
    Calls Tryz.prog 36 #[.agg #[.slice za zn zc, .slice v1 m c], vn] w fun e w' => e = .returned (.int .i64 (whereM o rs n)) ∧ Below w.heap.size w w' := by
  have HU := Lib.hid (fun (W : World) (hb : Below w.heap.size w W) => kn_RUnder vn (.slice za zn zc) n o _ rfl W (hO.below hb) (h.1.below hb) hko h.2.1)
  have HC := Lib.hid (fun (W : World) (hb : Below w.heap.size w W) => ref_CutOf (h.below hb) (hO.below hb) hko)
  have HWH := Lib.hid (show whereM o rs n = if underN n o then (match cutM o rs n with | none => 1 | some s => if s = n.length then 2 else 3) else 0 from rfl)
  have HCS := Lib.hid (fun s (h : cutM o rs n = some s) => (cutM_some h).2.2)
  obtain ⟨ao, co, rfl, -⟩ := nmAt_sl.1 hO
  obtain ⟨qo, hqo⟩ : ∃ q, (List.map strV n).length = q := ⟨_, rfl⟩
  have hqn : n.length = qo := by rw [← hqo, List.length_map]
  have HQN := Lib.hid hqn
  rw [hqo] at HU HC ⊢
  generalize whereM o rs n = res at *
  have hB0 := (Below.refl w.heap.size w).alloc (Nat.le_refl _) (.cells #[.slice za zn zc, .slice v1 m c] 60)
  have X0 := Lib.hid (knew w (.cells #[.slice za zn zc, .slice v1 m c] 60))
  have hu := HU.out _ hB0
  have HB0 := Lib.hid hB0
  clear h hO hko hqo hqn hB0 HU
  go_enter Tryz.func36, Tryz.ntmps36
  go_wp2_with fail
  refine hu.mono ?_
  rintro e w1 ⟨rfl, hb1⟩
  have HB1 := Lib.hid (HB0.out.trans (hb1.mono HB0.out.size))
  have h0 := (hb1.block w.heap.size (kblock_lt X0.out)).trans X0.out
  have y0 := kcell h0 0 _ rfl
  have y1 := kcell h0 1 _ rfl
  clear h0 hb1 hu HB0 X0
  by_cases hu : underN n o = true
  · rw [hu] at HWH ⊢
    have hc := HC.out w1 HB1.out
    have HU := Lib.hid hu
    clear hu HC
    obtain ⟨r, hr⟩ : ∃ r, cutM o rs n = r := ⟨_, rfl⟩
    rw [hr] at hc HWH
    have HR := Lib.hid hr
    clear hr
    go_wp2_with fail
    refine hc.mono ?_
    rintro e w2 ⟨a2, k2, c2, rfl, hnm, hb2⟩
    have hk2 := nm_len hnm
    have HB2 := Lib.hid (HB1.out.trans (hb2.mono HB1.out.size))
    clear hc hb2 hnm y0 y1
    cases r with
    | none =>
      have H1 : Hid (res = 1) := Lib.hid (by rw [HWH.out]; rfl)
      clear HWH hk2
      go_wp2
      go_ret
      exact ⟨by rw [H1.out]; rfl, HB2.out⟩
    | some s =>
      have hsq := HCS.out s HR.out
      have hks : k2 = s := by rw [hk2]; exact ancN_len hsq
      clear hk2
      subst hks
      by_cases hq : k2 = qo
      · have hbb : ((k2 : Int) == (qo : Int)) = true := by simp; omega
        have H1 : Hid (res = 2) := Lib.hid (by rw [HWH.out]; simp [HQN.out, hq])
        clear HWH hq hsq
        go_wp2
        go_ret
        exact ⟨by rw [H1.out]; rfl, HB2.out⟩
      · have hbb : ((k2 : Int) == (qo : Int)) = false := by simp; omega
        have H1 : Hid (res = 3) := Lib.hid (by rw [HWH.out]; simp [HQN.out, hq])
        clear HWH hq hsq
        go_wp2
        go_ret
        exact ⟨by rw [H1.out]; rfl, HB2.out⟩
  · simp only [Bool.not_eq_true] at hu
    rw [hu] at HWH ⊢
    have H1 : Hid (res = 0) := Lib.hid (by rw [HWH.out]; rfl)
    clear hu HWH HC
    go_wp2
    go_ret
    exact ⟨by rw [H1.out]; rfl, HB1.out⟩
set_option maxRecDepth 100000 in
set_option maxHeartbeats 8000000 in
theorem ref_Source {w : World} {za v1 : Option Addr} {zn zc m c : Nat} {o n : Nm} {rs : List Rc} {vn : Value} (h : ZonS w za zn zc v1 m c o rs) (hO : NmAt w vn n) (hko : NmOK n) (hn1 : n.length < 1048576) :
    Calls Tryz.prog 34 #[.agg #[.slice za zn zc, .slice v1 m c], vn] w (SrcPost w (starM o rs n) (sourceM o rs n)) := by
  have HC := Lib.hid (fun (W : World) (hb : Below w.heap.size w W) => ref_Encloser (h.below hb) (hO.below hb) hko)
  have hE := encM_ok (o := o) (rs := rs) hko
  have hEl := encM_len (o := o) (n := n) rs
  have hS : NmOK (starM o rs n) := ⟨by unfold starM; rw [List.length_cons]; omega, fun x hx => by
    unfold starM at hx
    rcases List.mem_cons.1 hx with rfl | hx
    · decide
    · exact hE.2 x hx⟩
  obtain ⟨-, -, ⟨css, hA, hR⟩, hOK, hl⟩ := h
  obtain ⟨hln, hx⟩ : css.length = m ∧ m ≤ c := by
    obtain ⟨a', c', e, h1, _⟩ := id hA
    cases e; exact ⟨rfl, h1⟩
  have HST := Lib.hid (show starM o rs n = [42] :: encM o rs n from rfl)
  have HSO := Lib.hid (show sourceM o rs n = rs.any fun r => sameN r.owner (starM o rs n) from rfl)
  have HE := Lib.hid hE
  have HA := Lib.hid hA; have HR := Lib.hid hR; have HLN := Lib.hid hln; have HOK := Lib.hid hOK
  have HDL := Lib.hid (show rs.length = m by rw [← hR.1]; exact hln)
  obtain ⟨ao, co, rfl, -⟩ := nmAt_sl.1 hO
  generalize (List.map strV n).length = qo at *
  obtain ⟨S, hSS⟩ : ∃ S, starM o rs n = S := ⟨_, rfl⟩
  rw [hSS] at HST HSO hS ⊢
  generalize sourceM o rs n = res at *
  have HS := Lib.hid hS
  have X0 := knew w (.cells #[.slice za zn zc, .slice v1 m c] 60)
  have HB0 := Lib.hid ((Below.refl w.heap.size w).alloc (Nat.le_refl _) (.cells #[.slice za zn zc, .slice v1 m c] 60))
  obtain ⟨w2, hw2⟩ : ∃ w2, w.alloc (.cells #[.slice za zn zc, .slice v1 m c] 60) = w2 := ⟨_, rfl⟩
  rw [hw2] at X0 HB0
  have HY := Lib.hid (fun W (hb : Below w2.heap.size w2 W) => And.intro (kcell ((hb.block _ (kblock_lt X0)).trans X0) 0 _ rfl) (kcell ((hb.block _ (kblock_lt X0)).trans X0) 1 _ rfl))
  have hc := HC.out _ HB0.out
  obtain ⟨y0, y1⟩ := HY.out w2 (Below.refl _ _)
  clear hO hko HC hA hR hOK hln hE hEl hS hSS hn1 X0
  go_enter Tryz.func34, Tryz.ntmps34
  go_wp2_with fail
  clear hw2
  refine hc.mono ?_
  rintro e w3 ⟨a3, k3', c3', rfl, hn3, hb3⟩
  have HB3 := Lib.hid hb3
  have hc2 := kn_RChild ⟨#[42]⟩ (.slice a3 k3' c3') (encM o rs n) S S.length (by rw [HST.out]) rfl w3 hn3 HE.out
  clear hc hn3 hb3 HE y0 y1
  go_wp2_with fail
  refine hc2.mono ?_
  rintro e w4 ⟨a5, c5', rfl, hn4, hb4⟩
  have HB4 := Lib.hid (HB3.out.trans (hb4.mono HB3.out.size))
  have HN4 := Lib.hid hn4
  obtain ⟨k5', hk5⟩ : ∃ q, S.length = q := ⟨_, rfl⟩
  rw [hk5] at HN4 ⊢
  clear hc2 hn4 hb4 HB3 hk5
  go_wp2
  go_loopw [7] (fun vi wr => ∃ k : Nat, vi = .int .i64 k ∧ k ≤ m ∧ Hid (((rs.take k).any fun r => sameN r.owner S) = false) ∧ Hid (Below w4.heap.size w4 wr)) (fun vi _ => m - (intOf vi).toNat)
  case atStart => exact ⟨0, rfl, Nat.zero_le _, Lib.hid (by simp), Lib.hid (Below.refl _ _)⟩
  case round =>
    obtain ⟨k, rfl, hk, HN, HB⟩ := hrel
    have HBx := Lib.hid (HB4.out.trans (HB.out.mono HB4.out.size))
    obtain ⟨y0, y1⟩ := HY.out wr HBx.out
    by_cases hlt : k < m
    · have hltz : (k : Int) < (m : Int) := by omega
      have hk1 : k < css.length := by have := HLN.out; omega
      have hk2 : k < rs.length := by have := HDL.out; omega
      obtain ⟨b, off, rfl, hb, hel⟩ := HA.out.elem HR.out.ck (by omega)
      have h0 := HR.out.2 k hk1 hk2
      have hokr := (HOK.out _ (List.getElem_mem hk2)).1
      have hany := any_succ (p := fun r => sameN r.owner S) hk2
      obtain ⟨d, hd⟩ : ∃ d, rs[k]'hk2 = d := ⟨_, rfl⟩
      have hdm : d ∈ rs := by rw [← hd]; exact List.getElem_mem _
      rw [hd] at h0 hokr hany
      rw [HN.out, Bool.false_or] at hany
      have hsh := h0.shape
      obtain ⟨⟨p0, q0, k0⟩, ⟨p3, q3, k3⟩, ⟨p4, q4, k4⟩, ⟨p5, q5, k5⟩, ⟨p6, q6, k6⟩, e0⟩ := hsh
      simp only at e0
      have hwr : Below w.heap.size w wr := HB0.out.trans (HBx.out.mono HB0.out.size)
      obtain ⟨c0', c1', c2', c3, c4, c5, c6⟩ := hel k hk1 _ _ _ _ _ _ _ e0 wr hwr
      have hown0 : NmAt w (.slice p0 q0 k0) d.owner := by
        obtain ⟨_, _, _, _, _, e5, g1, _⟩ := h0
        rw [e0] at e5
        simp only [List.cons.injEq, and_true] at e5
        rw [e5.1]; exact g1
      have hn := kn_RSame (.slice p0 q0 k0) (.slice a5 k5' c5') d.owner S _ rfl _ (hown0.below hwr) (HN4.out.below HB.out) hokr HS.out
      have HANY := Lib.hid hany; have HDM := Lib.hid hdm
      clear h0 hd e0 hel hown0 hokr hany hdm hk1 hk2 hwr c1' c2' c3 c4 c5 c6
      go_wp2_with fail
      refine hn.mono ?_
      rintro e w5 ⟨rfl, hb5⟩
      have HB5 := Lib.hid (HB.out.trans (hb5.mono HB.out.size))
      clear hn hb5 c0' y0 y1
      obtain ⟨q, hq⟩ : ∃ q, sameN d.owner S = q := ⟨_, rfl⟩
      have HQ := Lib.hid hq
      rw [hq] at HANY ⊢
      clear hq
      cases q
      · go_wp2
        go_roundw
        case measure => simp [intOf]; omega
        case rel => exact ⟨k + 1, by go_num, by omega, HANY, HB5⟩
      · have H1 : Hid (res = true) := Lib.hid (by rw [HSO.out, List.any_eq_true]; exact ⟨d, HDM.out, HQ.out⟩)
        go_wp2
        go_ret2
        exact ⟨a5, _, c5', by rw [H1.out]; rfl, by rw [H1.out, if_pos rfl]; exact HN4.out.below HB5.out, HB0.out.trans ((HB4.out.trans (HB5.out.mono HB4.out.size)).mono HB0.out.size)⟩
    · obtain rfl : k = m := by omega
      have hn := HN.out
      rw [List.take_of_length_le (by have := HDL.out; omega)] at hn
      have H1 : Hid (res = false) := Lib.hid (by rw [HSO.out]; exact hn)
      clear hn
      go_wp2
      go_ret2
      exact ⟨none, 0, 0, by rw [H1.out]; rfl, by rw [H1.out]; exact nm_nil _, HB0.out.trans (HBx.out.mono HB0.out.size)⟩
end Go.Proofs.YtckammgnmgkieaaGreat

/-
  law4.IsAll of a row of data and the same in the document's form.
-/
namespace Go.Proofs.YtckammgnmgkieaaGreat
open Go.RowKit Go.Shelf
set_option maxRecDepth 20000
set_option linter.unusedVariables false
set_option linter.unusedSimpArgs false
set_option maxRecDepth 100000 in
set_option maxHeartbeats 16000000 in
theorem law4_IsAll (v u : Value) (css ess : List (List Value)) (l : List Dat) (w : World) (hA : SlK w v css) (hR : Dts w css l) (hU : SlK w u ess) (hS : Dts w ess l) (hOK : ∀ r ∈ l, DatOK r) (hl : l.length ≤ 1048576) :
    Calls Tryz.prog 41 #[v, u] w fun e w' => e = .returned (.bool true) ∧ Below w.heap.size w w' := by
  obtain ⟨a, c, rfl, hc1, -⟩ := id hA
  obtain ⟨b, d, rfl, hd1, -⟩ := id hU
  obtain ⟨n, hn⟩ : ∃ n, css.length = n := ⟨_, rfl⟩
  have hen : ess.length = n := by rw [hS.1, ← hn, hR.1]
  rw [hn] at hA hc1 ⊢
  rw [hen] at hU hd1 ⊢
  have HA := Lib.hid hA; have HU := Lib.hid hU; have HR := Lib.hid hR; have HS := Lib.hid hS; have HOK := Lib.hid hOK
  have HN := Lib.hid hn; have HE := Lib.hid hen
  have HL := Lib.hid (show l.length = n by rw [← hn]; exact hR.1.symm)
  have hnx : n ≤ 1048576 := by have := HL.out; omega
  have hnn : ((n : Int) != (n : Int)) = false := by simp
  clear hA hR hU hS hOK hl hn hen
  go_enter Tryz.func41, Tryz.ntmps41
  go_wp2
  go_loopw [5] (fun vi wr => ∃ k : Nat, vi = .int .i64 k ∧ k ≤ n ∧ Hid (Below w.heap.size w wr)) (fun vi _ => n - (intOf vi).toNat)
  case atStart => exact ⟨0, rfl, Nat.zero_le _, Lib.hid (Below.refl _ _)⟩
  case round =>
    obtain ⟨k, rfl, hk, HB⟩ := hrel
    by_cases hlt : k < n
    · have hltz : (k : Int) < (n : Int) := by omega
      have hk1 : k < css.length := by have := HN.out; omega
      have hk2 : k < ess.length := by have := HE.out; omega
      have hk3 : k < l.length := by have := HL.out; omega
      obtain ⟨ga, oa, rfl, hga, hea⟩ := HA.out.elem5 HR.out.ck (by omega)
      obtain ⟨gb, ob, rfl, hgb, heb⟩ := HU.out.elem5 HS.out.ck (by omega)
      have h0 := (HR.out.2 k hk1 hk3).2
      have h1 := (HS.out.2 k hk2 hk3).2
      have hok := HOK.out _ (List.getElem_mem hk3)
      obtain ⟨D, hD⟩ : ∃ r, l[k]'hk3 = r := ⟨_, rfl⟩
      rw [hD] at h0 h1 hok
      obtain ⟨⟨p3, q3, r3⟩, ⟨p4, q4, r4⟩, ⟨p5, q5, r5⟩, ⟨p6, q6, r6⟩, e0⟩ := dt_shape h0
      obtain ⟨⟨s3, t3, u3⟩, ⟨s4, t4, u4⟩, ⟨s5, t5, u5⟩, ⟨s6, t6, u6⟩, e1⟩ := dt_shape h1
      simp only at e0 e1
      have f0 := fun W (hb : Below w.heap.size w W) => hea k hk1 _ _ _ _ _ e0 W hb
      have f1 := fun W (hb : Below w.heap.size w W) => heb k hk2 _ _ _ _ _ e1 W hb
      rw [e0] at h0
      rw [e1] at h1
      have HF0 := Lib.hid f0; have HF1 := Lib.hid f1; have H0 := Lib.hid h0; have H1 := Lib.hid h1
      have KC := Lib.hid (fun W (hb : Below w.heap.size w W) => (show (W.cell? ⟨ga, oa + k * 5, none⟩ = some (.int .i64 D.ty) ∧ W.cell? ⟨ga, oa + k * 5 + 1, none⟩ = some (.slice p3 q3 r3) ∧ W.cell? ⟨ga, oa + k * 5 + 2, none⟩ = some (.slice p4 q4 r4) ∧ W.cell? ⟨ga, oa + k * 5 + 3, none⟩ = some (.slice p5 q5 r5) ∧ W.cell? ⟨ga, oa + k * 5 + 4, none⟩ = some (.slice p6 q6 r6) ∧ W.cell? ⟨gb, ob + k * 5, none⟩ = some (.int .i64 D.ty) ∧ W.cell? ⟨gb, ob + k * 5 + 1, none⟩ = some (.slice s3 t3 u3) ∧ W.cell? ⟨gb, ob + k * 5 + 2, none⟩ = some (.slice s4 t4 u4) ∧ W.cell? ⟨gb, ob + k * 5 + 3, none⟩ = some (.slice s5 t5 u5) ∧ W.cell? ⟨gb, ob + k * 5 + 4, none⟩ = some (.slice s6 t6 u6) ∧ Below w.heap.size w W) from
        ⟨(HF0.out W hb).1, (HF0.out W hb).2.1, (HF0.out W hb).2.2.1, (HF0.out W hb).2.2.2.1, (HF0.out W hb).2.2.2.2, (HF1.out W hb).1, (HF1.out W hb).2.1, (HF1.out W hb).2.2.1, (HF1.out W hb).2.2.2.1, (HF1.out W hb).2.2.2.2, hb⟩))
      have KS := Lib.hid (fun W W' (h : Below w.heap.size w W) (hb : Below W.heap.size W W') => KC.out W' (h.trans (hb.mono h.size)))
      have C1 := Lib.hid (fun W (hb : Below w.heap.size w W) => (law4_OfS w (.agg #[.int .i64 D.ty, .slice p3 q3 r3, .slice p4 q4 r4, .slice p5 q5 r5, .slice p6 q6 r6]) D W H0.out hb hok.2.1))
      have C2 := Lib.hid (fun W (v : Value) (hb : Below w.heap.size w W) (hv : DatAt W v D) => law4_Is v (.agg #[.int .i64 D.ty, .slice s3 t3 u3, .slice s4 t4 u4, .slice s5 t5 u5, .slice s6 t6 u6]) D W hv (H1.out.below hb) hok)
      have hS0 := KC.out wr HB.out
      have hcl : Below w.heap.size w wr.drew := HB.out.trans ⟨rfl, rfl, rfl, Nat.le_refl _, fun _ _ => rfl⟩
      have hSD := KC.out _ hcl
      have HSD := Lib.hid hcl
      clear h0 h1 hok hD e0 e1 f0 f1 hea heb hk1 hk2 hk3 hga hgb hcl
      obtain ⟨y0, y1, y2, y3, y4, y5, y6, y7, y8, y9, -⟩ := id hS0
      go_wp2_with fail
      go_region_held3 (fun W => W.cell? ⟨ga, oa + k * 5, none⟩ = some (.int .i64 D.ty) ∧ W.cell? ⟨ga, oa + k * 5 + 1, none⟩ = some (.slice p3 q3 r3) ∧ W.cell? ⟨ga, oa + k * 5 + 2, none⟩ = some (.slice p4 q4 r4) ∧ W.cell? ⟨ga, oa + k * 5 + 3, none⟩ = some (.slice p5 q5 r5) ∧ W.cell? ⟨ga, oa + k * 5 + 4, none⟩ = some (.slice p6 q6 r6) ∧ W.cell? ⟨gb, ob + k * 5, none⟩ = some (.int .i64 D.ty) ∧ W.cell? ⟨gb, ob + k * 5 + 1, none⟩ = some (.slice s3 t3 u3) ∧ W.cell? ⟨gb, ob + k * 5 + 2, none⟩ = some (.slice s4 t4 u4) ∧ W.cell? ⟨gb, ob + k * 5 + 3, none⟩ = some (.slice s5 t5 u5) ∧ W.cell? ⟨gb, ob + k * 5 + 4, none⟩ = some (.slice s6 t6 u6) ∧ Below w.heap.size w W)
        (first | with_reducible assumption | exact KC.out _ HB.out | exact KC.out _ HSD.out)
        (first
          | ((with_reducible refine (C1.out _ HSD.out).mono ?_); rintro e w7 h7; obtain ⟨cs7, rfl, hof, hb7⟩ := h7.cells; obtain ⟨⟨i3, j3, z3⟩, ⟨i4, j4, z4⟩, ⟨i5, j5, z5⟩, ⟨i6, j6, z6⟩, rfl⟩ := hof.shape; have hS2 := KS.out _ _ HSD.out hb7; have HB7 := Lib.hid hS2.2.2.2.2.2.2.2.2.2.2; have HD7 := Lib.hid (hof.datAt HB7.out).2; clear hof hb7 h7)
          | ((with_reducible refine (C2.out _ _ HB7.out HD7.out).mono ?_); rintro e w9 ⟨rfl, hb9⟩; have hS2 := KS.out _ _ HB7.out hb9; have HB9 := Lib.hid hS2.2.2.2.2.2.2.2.2.2.2; clear hb9))
      all_goals
        clear y0 y1 y2 y3 y4 y5 y6 y7 y8 y9 hS0 hSD hS2
        go_wp2
        go_roundw
        case measure => simp [intOf]; omega
        case rel => exact ⟨k + 1, by go_num, by omega, HB9⟩
    · obtain rfl : k = n := by omega
      go_wp2
      go_ret
      exact ⟨rfl, HB.out⟩
end Go.Proofs.YtckammgnmgkieaaGreat

/-
  What refer has told: the list and the map, round by round.
-/
namespace Go.Proofs.YtckammgnmgkieaaGreat
set_option maxRecDepth 20000
open Go.RowKit Go.Shelf
set_option maxRecDepth 20000
set_option linter.unusedVariables false
set_option linter.unusedSimpArgs false
def CntD (D : DataW Unit) (ts : List (List UInt8)) : Prop := Maps.IsMap D ∧ ∀ x : List UInt8, D.atKey (.string x) (.lit (.int .i64 0)) = .lit (.int .i64 (ts.count x : Nat))
theorem CntD.snoc {D : DataW Unit} {ts : List (List UInt8)} (h : CntD D ts) (t : List UInt8) : CntD (D.put (.string t) (.lit (.int .i64 ((ts.count t + 1 : Nat) : Int)))) (ts ++ [t]) := by
  refine ⟨?_, fun x => ?_⟩
  · obtain ⟨es, rfl⟩ := h.1
    exact ⟨_, DataW.put_eq es _ _⟩
  · by_cases e : x = t
    · subst e
      rw [Maps.atKey_put_same (k := .string x) h.1 trivial, List.count_append]
      simp
    · rw [Maps.atKey_put_other (by intro h; injection h with h; exact e h), h.2 x, List.count_append]
      have : List.count x [t] = 0 := by rw [List.count_eq_zero]; simpa using e
      rw [this, Nat.add_zero]
end Go.Proofs.YtckammgnmgkieaaGreat

/-
  look.refer: what its walk keeps.
-/
namespace Go.Proofs.YtckammgnmgkieaaGreat
set_option maxRecDepth 20000
open Go.RowKit Go.Shelf
set_option maxRecDepth 20000
set_option linter.unusedVariables false
set_option linter.unusedSimpArgs false
theorem OwnNms.keptC {W W' : World} {base base' k : Nat} {T : TypeId} {v v' : Value} {yss : List (List Value)} {ns : List Nm} (h : OwnNms W base v ns) (h' : OwnC k T W base' v' yss) (hg : W.grownBy W' v'.ownBlock) (h2 : 24 ≠ T) (h3 : 9 ≠ T) : OwnNms W' base v ns := by
  obtain ⟨vs, q1, q2, q3⟩ := h
  exact ⟨vs, q1.kept_c h' h2 hg, q2, fun i a b => (q3 i a b).kept_c h' h3 hg⟩
def GlF (W : World) (base : Nat) (css : List (List Value)) (l : List (Nm × List Dat)) : Prop := css.length = l.length ∧ ∀ j (h1 : j < css.length) (h2 : j < l.length), ∃ x0 x1 : Option Addr × Nat × Nat, css[j] = [slW x0, slW x1] ∧ OwnG 9 strV W base (slW x0) l[j].1 ∧ OwnDts W base (slW x1) l[j].2
theorem GlF.move {W W' : World} {base : Nat} {css : List (List Value)} {l : List (Nm × List Dat)} (h : GlF W base css l) (hf : FarKeep base W W') : GlF W' base css l := by
  refine ⟨h.1, fun j a b => ?_⟩
  obtain ⟨x0, x1, e, k1, k2⟩ := h.2 j a b
  exact ⟨x0, x1, e, k1.move hf, k2.move hf⟩
theorem GlF.keptC {W W' : World} {base base' : Nat} {v' : Value} {yss : List (List Value)} {css : List (List Value)} {l : List (Nm × List Dat)} (h : GlF W base css l) (h' : OwnC 2 143 W base' v' yss) (hg : W.grownBy W' v'.ownBlock) : GlF W' base css l := by
  refine ⟨h.1, fun j a b => ?_⟩
  obtain ⟨x0, x1, e, k1, k2⟩ := h.2 j a b
  exact ⟨x0, x1, e, k1.kept_c h' (by decide) hg, k2.keptC h' hg (by decide) (by decide) (by decide) (by decide) (by decide)⟩
theorem GlF.snoc {W : World} {base : Nat} {css : List (List Value)} {l : List (Nm × List Dat)} (h : GlF W base css l) {x0 x1 : Option Addr × Nat × Nat} {n : Nm} {ds : List Dat} (h0 : OwnG 9 strV W base (slW x0) n) (h1 : OwnDts W base (slW x1) ds) : GlF W base (css ++ [[slW x0, slW x1]]) (l ++ [(n, ds)]) := by
  refine ⟨by simp [h.1], fun i a b => ?_⟩
  by_cases hi : i < css.length
  · have hi2 : i < l.length := by have := h.1; omega
    rw [List.getElem_append_left hi, List.getElem_append_left hi2]
    exact h.2 i hi hi2
  · have e1 : i = css.length := by simp at a; omega
    have e2 : i = l.length := by have := h.1; omega
    rw [List.getElem_append_right (by omega), List.getElem_append_right (by omega)]
    simp only [show i - css.length = 0 by omega, show i - l.length = 0 by omega, List.getElem_cons_zero]
    exact ⟨x0, x1, rfl, h0, h1⟩
end Go.Proofs.YtckammgnmgkieaaGreat

/-
  What look.Zone answers is of bounded rows: look.Same may be asked of it.
-/
namespace Go.Proofs.YtckammgnmgkieaaGreat
open Go.RowKit Go.Shelf
set_option maxRecDepth 20000
set_option linter.unusedVariables false
set_option linter.unusedSimpArgs false
theorem glue_okL {rs : List Rc} (hr : ∀ r ∈ rs, RcOK r) (hl : rs.length ≤ 524288) (h : Nm) : (∀ d ∈ glueM rs h, DatOK d) ∧ (glueM rs h).length ≤ 1048576 := by
  unfold glueM
  have hg : ∀ t, ∀ d ∈ ((ofM rs h t).getD ⟨[], 0, 0, []⟩).data, DatOK d := fun t d hd => by
    cases e : ofM rs h t with
    | none => rw [e] at hd; simp at hd
    | some s => rw [e] at hd; exact (ofM_ok hr e).2 d hd
  refine ⟨fun d hd => ?_, ?_⟩
  · rcases List.mem_append.1 hd with hd | hd
    · exact hg 1 d hd
    · exact hg 28 d hd
  · have h1 := ofM_len rs h 1
    have h2 := ofM_len rs h 28
    rw [List.length_append]; omega
theorem nm_nilOK : NmOK [] := ⟨by simp, fun x hx => by cases hx⟩
end Go.Proofs.YtckammgnmgkieaaGreat

/-
  law5.Good of a row, law12.Good.
-/
namespace Go.Proofs.YtckammgnmgkieaaGreat
set_option maxRecDepth 20000
open Go.RowKit Go.Shelf
set_option maxRecDepth 20000
set_option linter.unusedVariables false
set_option linter.unusedSimpArgs false
def okR (r : Rc) : Bool := decide (checkR r = 0)
def goodRs (l : List Rc) : Bool := fewRs l && l.all okR
theorem all_succ {α : Type} {p : α → Bool} {l : List α} {k : Nat} (h : k < l.length) : (l.take (k + 1)).all p = ((l.take k).all p && p l[k]) := by
  rw [List.take_succ_eq_append_getElem h, List.all_append]; simp
def RowArg (W : World) (v : Value) (l : List Rc) : Prop := ∃ css, SlK W v css ∧ (css.length = l.length ∧ ∀ i (h1 : i < css.length) (h2 : i < l.length), RcArg W css[i] l[i])
theorem RowArg.row {W : World} {v : Value} {l : List Rc} (h : RowArg W v l) : RowC W v l := by
  obtain ⟨css, h1, h2, h3⟩ := h
  exact ⟨css, h1, h2, fun i a b => (h3 i a b).rcAt⟩
theorem RowArg.ok {W : World} {v : Value} {l : List Rc} (h : RowArg W v l) (hf : fewRs l = true) : l.length ≤ 60 ∧ ∀ r ∈ l, RcOK r := by
  obtain ⟨css, h1, h2, h3⟩ := h
  simp only [fewRs, Bool.and_eq_true, decide_eq_true_eq, List.all_eq_true] at hf
  refine ⟨hf.1, fun r hr => ?_⟩
  obtain ⟨i, hi, rfl⟩ := List.mem_iff_getElem.1 hr
  exact (h3 i (by omega) hi).ok (hf.2 _ hr)
theorem fewR_names {r : Rc} (h : fewR r = true) : r.data.names.length ≤ 1048576 := by
  simp only [fewR, Bool.and_eq_true] at h
  have h2 := h.2
  simp only [fewD, Bool.and_eq_true, decide_eq_true_eq] at h2; omega
set_option maxRecDepth 100000 in
set_option maxHeartbeats 8000000 in
theorem law5_Good (v : Value) (l : List Rc) (w0 w : World) (hL : RowArg w0 v l) (hwz : Below w0.heap.size w0 w) :
    Calls Tryz.prog 67 #[v] w fun e w' => e = .returned (.bool (goodRs l)) ∧ Below w.heap.size w w' := by
  have HOK := Lib.hid hL.ok
  obtain ⟨css, hA, hR⟩ := hL
  have hf := law5_Few v css l w0 w hA hR hwz
  have HR := Lib.hid hR; have HA := Lib.hid hA; have HWZ := Lib.hid hwz
  obtain ⟨a, c, rfl, hc1, -, -⟩ := id hA
  obtain ⟨n, hn⟩ : ∃ n, css.length = n := ⟨_, rfl⟩
  have HLN := Lib.hid hn
  have HDL := Lib.hid (show l.length = n by rw [← hR.1]; exact hn)
  rw [hn] at hf ⊢
  have HG := Lib.hid (show goodRs l = (fewRs l && l.all okR) from rfl)
  generalize goodRs l = res at *
  clear hA hR hwz hn hc1
  go_enter Tryz.func67, Tryz.ntmps67
  go_wp2_with fail
  refine hf.mono ?_
  rintro e w1 ⟨rfl, hb1⟩
  have HB1 := Lib.hid hb1
  clear hf hb1
  obtain ⟨fw, hfw⟩ : ∃ fw, fewRs l = fw := ⟨_, rfl⟩
  have HFW := Lib.hid hfw
  rw [hfw] at HG ⊢
  clear hfw
  cases fw
  · have H1 : Hid (res = false) := Lib.hid (by rw [HG.out]; rfl)
    clear HG
    go_wp2
    go_ret
    exact ⟨by rw [H1.out]; rfl, HB1.out⟩
  obtain ⟨hl60, hok⟩ := HOK.out HFW.out
  have HOKL := Lib.hid hok
  have HFR := Lib.hid (show ∀ r ∈ l, r.data.names.length ≤ 1048576 from fun r hr => by
    have h := HFW.out
    simp only [fewRs, Bool.and_eq_true, decide_eq_true_eq, List.all_eq_true] at h
    exact fewR_names (h.2 r hr))
  have hn60 : n ≤ 60 := by have := HDL.out; omega
  clear hok hl60 HOK
  go_wp2
  go_loopw [3] (fun vi wr => ∃ k : Nat, vi = .int .i64 k ∧ k ≤ n ∧ Hid ((l.take k).all okR = true) ∧ Hid (Below w.heap.size w wr)) (fun vi _ => n - (intOf vi).toNat)
  case atStart => exact ⟨0, rfl, Nat.zero_le _, Lib.hid (by simp), HB1⟩
  case round =>
    obtain ⟨k, rfl, hk, HO, HB⟩ := hrel
    by_cases hlt : k < n
    · have hltz : (k : Int) < (n : Int) := by omega
      have hk1 : k < css.length := by have := HLN.out; omega
      have hk2 : k < l.length := by have := HDL.out; omega
      have hck : ∀ cs ∈ css, cs.length = 7 := fun cs hc => by
        obtain ⟨i, hi, rfl⟩ := List.mem_iff_getElem.1 hc
        exact ((HR.out.2 i hi (by have := HR.out.1; omega)).rcAt).len
      obtain ⟨b, off, rfl, hb, hel⟩ := HA.out.elem hck (by omega)
      have h0 := (HR.out.2 k hk1 hk2).rcAt
      have hokr := HOKL.out _ (List.getElem_mem hk2)
      have hnl := HFR.out _ (List.getElem_mem hk2)
      have hall := all_succ (p := okR) hk2
      obtain ⟨r, hr⟩ : ∃ r, l[k]'hk2 = r := ⟨_, rfl⟩
      have hrm : r ∈ l := by rw [← hr]; exact List.getElem_mem _
      rw [hr] at h0 hokr hnl hall
      rw [HO.out, Bool.true_and] at hall
      clear hr
      have hwr : Below w0.heap.size w0 wr := HWZ.out.trans (HB.out.mono HWZ.out.size)
      have hof := law5_Of w0 _ r wr h0 hwr hnl
      obtain ⟨⟨p0, q0, r0⟩, ⟨p3, q3, r3⟩, ⟨p4, q4, r4⟩, ⟨p5, q5, r5⟩, ⟨p6, q6, r6⟩, e0⟩ := h0.shape
      simp only at e0
      obtain ⟨c0, c1, c2, c3, c4, c5, c6⟩ := hel k hk1 _ _ _ _ _ _ _ e0 wr hwr
      rw [e0] at hof
      have HWR := Lib.hid hwr; have HOKR := Lib.hid hokr; have HALL := Lib.hid hall; have HRM := Lib.hid hrm
      clear h0 hnl e0 hel hk1 hk2 hck hwr hokr hall hrm
      go_wp2_with fail
      refine hof.mono ?_
      rintro e w2 ⟨cs2, rfl, hof2, hb2⟩
      have HB2 := Lib.hid (HB.out.trans (hb2.mono HB.out.size))
      have hck := ref_CheckRec cs2 r w2 (hof2.rcAt (HWR.out.trans (hb2.mono HWR.out.size))) HOKR.out
      clear hb2 hof hof2 c0 c1 c2 c3 c4 c5 c6
      go_wp2_with fail
      refine hck.mono ?_
      rintro e w3 ⟨rfl, hb3⟩
      have HB3 := Lib.hid (HB2.out.trans (hb3.mono HB2.out.size))
      clear hb3 hck
      unfold okR at HALL
      generalize checkR r = cr at *
      by_cases hcr : cr = 0
      · have hbb : (cr != 0) = false := by simpa using hcr
        have HA2 : Hid ((l.take (k + 1)).all okR = true) := Lib.hid (by unfold okR; rw [HALL.out]; simpa using hcr)
        clear hcr HALL
        go_wp2
        go_roundw
        case measure => simp [intOf]; omega
        case rel => exact ⟨k + 1, by go_num, by omega, HA2, HB3⟩
      · have hbb : (cr != 0) = true := by simpa using hcr
        have H1 : Hid (res = false) := Lib.hid (by
          rw [HG.out, Bool.true_and]
          have h9 : (l.take (k + 1)).all okR = false := by unfold okR; rw [HALL.out]; simpa using hcr
          cases h8 : l.all okR
          · rfl
          · exfalso
            rw [List.all_eq_true] at h8
            have : (l.take (k + 1)).all okR = true := by rw [List.all_eq_true]; exact fun x hx => h8 x (List.mem_of_mem_take hx)
            rw [h9] at this; cases this)
        clear hcr HALL
        go_wp2
        go_ret
        exact ⟨by rw [H1.out]; rfl, HB3.out⟩
    · obtain rfl : k = n := by omega
      have h := HO.out
      rw [List.take_of_length_le (by have := HDL.out; omega)] at h
      have H1 : Hid (res = true) := Lib.hid (by rw [HG.out, h]; rfl)
      clear h
      go_wp2
      go_ret
      exact ⟨by rw [H1.out]; rfl, HB.out⟩
set_option maxRecDepth 100000 in
set_option maxHeartbeats 8000000 in
theorem law12_Good (vo vl : Value) (o : Nm) (l : List Rc) (w0 w : World) (hO : NmArg w0 vo o) (hL : RowArg w0 vl l) (hwz : Below w0.heap.size w0 w) :
    Calls Tryz.prog 26 #[vo, vl] w fun e w' => e = .returned (.bool (goodN o && goodRs l)) ∧ Below w.heap.size w w' := by
  have hc := kn_Good vo o _ rfl w0 w hO (hO.1.below hwz)
  have HL := Lib.hid (fun (W : World) (hb : Below w.heap.size w W) => law5_Good vl l w0 W hL (hwz.trans (hb.mono hwz.size)))
  clear hO hL hwz
  generalize goodN o = g at *
  go_enter Tryz.func26, Tryz.ntmps26
  go_wp2_with fail
  refine hc.mono ?_
  rintro e w1 ⟨rfl, hb1⟩
  have HB1 := Lib.hid hb1
  clear hc hb1
  cases g
  · go_wp2
    go_ret
    exact ⟨rfl, HB1.out⟩
  · have hc := HL.out w1 HB1.out
    clear HL
    go_wp2_with fail
    refine hc.mono ?_
    rintro e w2 ⟨rfl, hb2⟩
    have HB2 := Lib.hid (HB1.out.trans (hb2.mono HB1.out.size))
    clear hc hb2
    go_wp2
    go_ret
    exact ⟨by rw [Bool.true_and]; rfl, HB2.out⟩
end Go.Proofs.YtckammgnmgkieaaGreat

