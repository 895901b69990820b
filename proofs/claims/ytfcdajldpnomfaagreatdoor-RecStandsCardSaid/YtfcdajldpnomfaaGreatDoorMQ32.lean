/-
  What a stable sort leaves is the one sorted row.
-/
import Derived.Test.YtfcdajldpnomfaaGreatDoorMQ27
import Derived.Test.YtfcdajldpnomfaaGreatDoorMQ33
import Derived.Test.YtfcdajldpnomfaaGreatDoorMQ19
import Derived.Lib.AppendIntMem
import Derived.Lib.ItoaMem
namespace Go.Proofs.YtfcdajldpnomfaaGreatDoor
set_option maxRecDepth 20000
open Go.RowKit Go.Shelf Go.Sort
open Stb (COrd Lx Rise)

theorem eq_of_perm_strict {α : Type} {R : α → α → Prop} (ht : ∀ x y z, R x y → R y z → R x z) (hi : ∀ x, ¬ R x x) : ∀ (a b : List α), a.Perm b → a.Pairwise R → b.Pairwise R → a = b
  | [], b, hp, _, _ => (List.nil_perm.1 hp).symm
  | x :: a, [], hp, _, _ => by have := hp.length_eq; simp at this
  | x :: a, y :: b, hp, h1, h2 => by
    have p1 := List.pairwise_cons.1 h1
    have p2 := List.pairwise_cons.1 h2
    have e : x = y := by
      have hx : x ∈ y :: b := hp.mem_iff.1 (by simp)
      have hy : y ∈ x :: a := hp.mem_iff.2 (by simp)
      rcases List.mem_cons.1 hx with h | h
      · exact h
      · rcases List.mem_cons.1 hy with g | g
        · exact g.symm
        · exact absurd (ht _ _ _ (p1.1 y g) (p2.1 x h)) (hi x)
    subst e
    rw [eq_of_perm_strict ht hi a b (List.Perm.cons_inv hp) p1.2 p2.2]

section
variable {α : Type} [Inhabited α] (rc : α → Rc) (tg : α → Nat)
def insT : List α → α → List α
  | [], x => [x]
  | y :: r, x => if compareR (rc y) (rc x) ≤ 0 then y :: insT r x else x :: y :: r
def sortT (l : List α) : List α := l.foldl (insT rc) []
omit [Inhabited α] in
theorem insT_map : ∀ (l : List α) (x : α), (insT rc l x).map rc = insS (l.map rc) (rc x)
  | [], x => rfl
  | y :: r, x => by
    simp only [insT, insS, List.map_cons]
    split
    · rw [List.map_cons, insT_map r x]
    · rfl
omit [Inhabited α] in
theorem sortT_map (l : List α) : (sortT rc l).map rc = sortM (l.map rc) := by
  unfold sortT sortM
  suffices ∀ (l a : List α) (b : List Rc), a.map rc = b → (l.foldl (insT rc) a).map rc = (l.map rc).foldl insS b from this l [] [] rfl
  intro l
  induction l with
  | nil => intro a b h; exact h
  | cons x l ih => intro a b h; exact ih _ _ (by rw [insT_map, h])
omit [Inhabited α] in
theorem insT_perm : ∀ (l : List α) (x : α), (insT rc l x).Perm (x :: l)
  | [], x => List.Perm.refl _
  | y :: r, x => by
    simp only [insT]
    split
    · exact ((insT_perm r x).cons y).trans (List.Perm.swap x y r)
    · exact List.Perm.refl _
def cfR (x y : α) : Int := compareR (rc x) (rc y)
omit [Inhabited α] in
theorem cord_cfR : COrd (cfR rc) := cord_on cord_compareR rc
omit [Inhabited α] in
theorem insT_rises : ∀ (l : List α) (x : α), l.Pairwise (Lx (cfR rc) tg) → (∀ y ∈ l, tg y < tg x) → (insT rc l x).Pairwise (Lx (cfR rc) tg)
  | [], x, _, _ => by simp [insT]
  | y :: r, x, h, ht => by
    have p := List.pairwise_cons.1 h
    simp only [insT]
    split
    · rename_i c
      have hyx : Lx (cfR rc) tg y x := by
        have := ht y (by simp)
        unfold Lx cfR; omega
      refine List.pairwise_cons.2 ⟨fun z hz => ?_, insT_rises r x p.2 (fun y hy => ht y (by simp [hy]))⟩
      rcases List.mem_cons.1 ((insT_perm rc r x).mem_iff.1 hz) with rfl | hz
      · exact hyx
      · exact p.1 z hz
    · rename_i c
      have hxy : Lx (cfR rc) tg x y := by
        have := (cord_cfR rc).anti x y
        unfold Lx; unfold cfR at *; omega
      refine List.pairwise_cons.2 ⟨fun z hz => ?_, h⟩
      rcases List.mem_cons.1 hz with rfl | hz
      · exact hxy
      · exact hxy.trans (cord_cfR rc) (p.1 z hz)
omit [Inhabited α] in
theorem sortT_rises (l : List α) (ht : l.Pairwise fun a b => tg a < tg b) : (sortT rc l).Pairwise (Lx (cfR rc) tg) ∧ (sortT rc l).Perm l := by
  unfold sortT
  suffices ∀ (l a : List α), a.Pairwise (Lx (cfR rc) tg) → (∀ x ∈ l, ∀ y ∈ a, tg y < tg x) → l.Pairwise (fun a b => tg a < tg b) → (l.foldl (insT rc) a).Pairwise (Lx (cfR rc) tg) ∧ (l.foldl (insT rc) a).Perm (l ++ a) from by
    have := this l [] List.Pairwise.nil (by simp) ht
    simpa using this
  intro l
  induction l with
  | nil => intro a h _ _; exact ⟨h, List.Perm.refl _⟩
  | cons x l ih =>
    intro a h h2 h3
    have p := List.pairwise_cons.1 h3
    have := ih (insT rc a x) (insT_rises rc tg a x h (h2 x (by simp))) (fun z hz y hy => by
      rcases List.mem_cons.1 ((insT_perm rc a x).mem_iff.1 hy) with rfl | hy
      · exact p.1 z hz
      · exact h2 z (by simp [hz]) y hy) p.2
    refine ⟨this.1, this.2.trans ?_⟩
    exact ((insT_perm rc a x).append_left l).trans (List.perm_middle)
end
theorem get_toList {α : Type} [Inhabited α] (x : Array α) (i : Nat) (h : i < x.toList.length) : x[i]! = x.toList[i] := by
  have h' : i < x.size := by simpa using h
  rw [getElem!_pos x i h', Array.getElem_toList]
theorem extract_all {α : Type} (x : Array α) (n : Nat) (h : x.size = n) : (x.extract 0 n).toList = x.toList := by
  subst h; simp
/-- The sorted row. -/
theorem sorted_is {α : Type} [Inhabited α] (rc : α → Rc) (tg : α → Nat) {d d' : Array α} (ht : ∀ i, i < d.size → tg d[i]! = i) (hp : PermIn 0 d.size d d') (hr : Rise (cfR rc) tg 0 d.size d') : d'.toList.map rc = sortM (d.toList.map rc) := by
  obtain ⟨hs, _, h1⟩ := hp
  rw [extract_all d' d.size hs, extract_all d d.size rfl] at h1
  have h2 : d'.toList.Pairwise (Lx (cfR rc) tg) := by
    refine List.pairwise_iff_getElem.2 ?_
    intro i j hi hj hij
    have h := hr i j (Nat.zero_le _) hij (by rw [← hs]; simpa using hj)
    rw [get_toList d' i hi, get_toList d' j hj] at h
    exact h
  have h3 : d.toList.Pairwise fun a b => tg a < tg b := by
    refine List.pairwise_iff_getElem.2 ?_
    intro i j hi hj hij
    have e1 := ht i (by simpa using hi)
    have e2 := ht j (by simpa using hj)
    rw [get_toList d i hi] at e1
    rw [get_toList d j hj] at e2
    omega
  obtain ⟨h4, h5⟩ := sortT_rises rc tg d.toList h3
  have h6 := eq_of_perm_strict (R := Lx (cfR rc) tg) (fun _ _ _ a b => Lx.trans (cord_cfR rc) a b) (fun x => Lx.irrefl (cord_cfR rc) x) d'.toList (sortT rc d.toList) (h1.trans h5.symm) h2 h4
  rw [← sortT_map, h6]
end Go.Proofs.YtfcdajldpnomfaaGreatDoor

/-
  The library's FormatUint at base 10.
-/
namespace Go.Proofs.YtfcdajldpnomfaaGreatDoor
set_option maxRecDepth 20000
open Go.RowKit Go.Shelf Go.Sort

set_option maxRecDepth 100000 in
set_option maxHeartbeats 8000000 in
theorem istrconv_FormatUint10 (u : Nat) (hu64 : u < 18446744073709551616) (w : World) (hT : Tab w) :
    Calls Tryz.prog 78 #[.int .u64 u, .int .i64 10] w fun e w' => e = .returned (.string ⟨(Lib.decDigits u).toArray⟩) ∧ Below w.heap.size w w' := by
  have hu0 : (0 : Int) ≤ (u : Int) := by omega
  by_cases hs : (u : Int) < 100
  · go_enter Tryz.func78, Tryz.ntmps78
    go_wp2_with (go_at_call 115; refine (Tryz.internal_strconv_small u (by omega) _).mono ?_; rintro e w2 ⟨rfl, rfl⟩)
    go_ret
    exact ⟨rfl, Below.refl _ _⟩
  · have hu1 : 1 ≤ u := by omega
    have hnd20 : Lib.nDigits u ≤ 20 := by have := Lib.numDigits_eq u hu1 hu64; split at this <;> omega
    have hal : Tryz.prog.arrayLen 142 = 24 := by simp [Program.arrayLen, Tryz.underlying142]
    have hsl1 : ∀ W, (Instr.sliceAt 142 (.pointer (some ⟨w.heap.size, 0, none⟩)) none (some (.int .i64 (Lib.nDigits u : Int))) none).run Tryz.prog W = .ok (.slice (some ⟨w.heap.size, 0, none⟩) (Lib.nDigits u) 24) W := fun W => by
      rw [run_sliceAt_array_h W 142 ⟨w.heap.size, 0, none⟩ (by simp [Program.arrayLen, Program.elem, Tryz.underlying142]) .i64 (Lib.nDigits u : Int) (by omega) (by rw [hal]; omega)]
      go_simp
      try omega
    have hH0 := Lib.holds_zero0 w 142 (Lib.nDigits u) (by omega)
    have hfmt := Tryz.internal_strconv_formatBase10 w.heap.size 0 24 u (Array.replicate (Lib.nDigits u) 0) (w.alloc (.cells Lib.zeros24 142)) hH0 (by rw [Array.size_replicate]; exact Lib.lt_pow_nDigits u) hu64 (by rw [Array.size_replicate]; omega)
    rw [Array.size_replicate] at hfmt
    have HH0 := Lib.hid hH0
    have htab : Tab (w.alloc (.cells Lib.zeros24 142)) := hT.below ((Below.refl _ w).alloc (Nat.le_refl _) _)
    clear hH0 hal
    go_enter Tryz.func78, Tryz.ntmps78
    go_wp2_with (go_at_call 116; refine (Tryz.internal_strconv_numDigits u hu1 hu64 _ htab).mono ?_; rintro e w2 ⟨rfl, rfl⟩)
    go_at_call 117
    refine hfmt.mono ?_
    rintro e w' ⟨rfl, k, v', dk, rfl, hF⟩
    have hcv : (convert 27 9 (.slice (some ⟨w.heap.size, 0, none⟩) (Lib.nDigits u) 24)).run Tryz.prog ((putRow (fun (b : UInt8) => Value.int .u8 (b.toNat : Int)) (w.alloc (.cells Lib.zeros24 142)) w.heap.size 0 dk).drewN k) = .ok (.string ⟨(Lib.decDigits u).toArray⟩) ((putRow (fun (b : UInt8) => Value.int .u8 (b.toNat : Int)) (w.alloc (.cells Lib.zeros24 142)) w.heap.size 0 dk).drewN k) := by
      have h := run_convert_bytes_back (P := Tryz.prog) ((putRow (fun (b : UInt8) => Value.int .u8 (b.toNat : Int)) (w.alloc (.cells Lib.zeros24 142)) w.heap.size 0 dk).drewN k) 27 9 5 ⟨w.heap.size, 0, none⟩ 24 (Lib.decDigits u) Tryz.underlying27 Tryz.underlying5 Tryz.underlying9 (fun j hj => by
        rw [Lib.row_is_numeral hF j hj, Lib.add_plain, World.cell?_drewN]
        exact cell?_putRow (fun (b : UInt8) => Value.int .u8 (b.toNat : Int)) _ w.heap.size 0 _ dk HH0.out (by rw [hF.size, Array.size_replicate]) j (by rw [hF.size]; rw [Lib.decDigits_length] at hj; exact hj))
      rw [Lib.decDigits_length] at h
      exact h
    go_wp2
    go_ret
    obtain ⟨os, eo⟩ := Lib.fin_at w (.cells Lib.zeros24 142) dk k 0
    refine ⟨rfl, ?_⟩
    rw [eo]
    exact Lib.below_grow _ w (Nat.le_refl _) k os

set_option maxHeartbeats 2000000 in
theorem strconv_FormatUint10 (u : Nat) (hu64 : u < 18446744073709551616) (w : World) (hT : Tab w) :
    Calls Tryz.prog 37 #[.int .u64 u, .int .i64 10] w fun e w' => e = .returned (.string ⟨(Lib.decDigits u).toArray⟩) ∧ Below w.heap.size w w' := by
  have h := istrconv_FormatUint10 u hu64 w hT
  go_enter Tryz.func37, Tryz.ntmps37
  go_wp2_with (go_at_call 78; refine h.mono ?_; rintro e w2 ⟨rfl, hb⟩)
  go_ret
  exact ⟨rfl, hb⟩
end Go.Proofs.YtfcdajldpnomfaaGreatDoor

/-
  The law's Few for data: the walk.
-/
namespace Go.Proofs.YtfcdajldpnomfaaGreatDoor
set_option maxRecDepth 20000
open Go.RowKit Go.Shelf

theorem SlAt.cell {W W' : World} {a : Option Addr} {n c : Nat} {xs : List Value} (h : SlAt W (.slice a n c) xs) (hb : Below W.heap.size W W') (j : Nat) (hj : j < xs.length) :
    ∃ b off, a = some ⟨b, off, none⟩ ∧ b < W.heap.size ∧ W'.cell? ⟨b, off + j, none⟩ = some xs[j] := by
  obtain ⟨a', c', e, _, _, hx⟩ := h
  cases e
  rcases hx with e | ⟨b, off, ea, hlt, hc⟩
  · subst e; simp at hj
  · exact ⟨b, off, ea, hlt, (hb.cell (p := ⟨b, off + j, none⟩) hlt).trans (hc j hj)⟩

set_option maxRecDepth 100000 in
set_option maxHeartbeats 8000000 in
theorem law4_Few (v : Value) (d : Dat) (w : World) (hA : DatArg w v d) :
    Calls Tryz.prog 25 #[v] w fun e w' => e = .returned (.bool (fewD d)) ∧ Below w.heap.size w w' := by
  obtain ⟨⟨vn, vu, vt, vr, rfl, a1, a2, a3, a4⟩, _, hN, _, hT⟩ := hA
  obtain ⟨vs, s1, sl, s2⟩ := a1
  obtain ⟨an, cn, rfl, x1⟩ := id s1
  obtain ⟨au, cu, rfl, x2⟩ := a2
  obtain ⟨ax, ct, rfl, x3⟩ := id a3.1
  obtain ⟨ar, cr, rfl, x4⟩ := a4
  clear x1 x2 x3 x4
  rw [List.length_map, List.length_map]
  obtain ⟨n1, e1⟩ : ∃ n, vs.length = n := ⟨_, rfl⟩
  obtain ⟨n2, e2⟩ : ∃ n, d.nums.length = n := ⟨_, rfl⟩
  obtain ⟨n3, e3⟩ : ∃ n, d.texts.length = n := ⟨_, rfl⟩
  obtain ⟨n4, e4⟩ : ∃ n, d.raw.length = n := ⟨_, rfl⟩
  have hbig : ¬ (n1 ≤ 8 ∧ n2 ≤ 12 ∧ n3 ≤ 40 ∧ n4 ≤ 1100) → fewD d = false := by
    intro h
    unfold fewD
    rw [decide_eq_false (by rw [← sl, e1, e2, e3, e4]; exact h)]; rfl
  have hb0 : ∀ o, Below w.heap.size w (w.alloc o) := fun o => (Below.refl _ w).alloc (Nat.le_refl _) o
  have hcn := fun o j (hj : j < vs.length) => s1.cell (hb0 o) j hj
  have hst : ∀ o j (h1 : j < vs.length) (h2 : j < d.names.length), StrsAt (w.alloc o) vs[j] d.names[j] := fun o j h1 _ => ((s2 j h1).below (hb0 o)).1
  have hct := fun o j hj => a3.1.cell (hb0 o) j hj
  have n0 := new_at w [.int .i64 d.ty, .slice an vs.length cn, .slice au n2 cu, .slice ax n3 ct, .slice ar n4 cr] 29
  rw [e2, e3, e4]
  rw [e1] at n0 ⊢
  have f1 := n0 1 _ rfl; have f2 := n0 2 _ rfl; have f3 := n0 3 _ rfl; have f4 := n0 4 _ rfl
  have E1 := Lib.hid e1; have E3 := Lib.hid e3; have SL := Lib.hid sl; have HB0 := Lib.hid hb0
  have E24 := Lib.hid (And.intro e2 e4)
  clear n0 s1 s2 a3 e1 e2 e3 e4 sl hb0
  by_cases c1 : 8 < (n1 : Int)
  · have H0 : Hid (fewD d = false) := Lib.hid (hbig (by omega))
    clear hbig hcn hst hct hN hT
    go_enter Tryz.func25, Tryz.ntmps25
    go_wp2
    go_ret
    exact ⟨by rw [H0.out]; rfl, HB0.out _⟩
  by_cases c2 : 12 < (n2 : Int)
  · have H0 : Hid (fewD d = false) := Lib.hid (hbig (by omega))
    clear hbig hcn hst hct hN hT
    go_enter Tryz.func25, Tryz.ntmps25
    go_wp2
    go_ret
    exact ⟨by rw [H0.out]; rfl, HB0.out _⟩
  by_cases c3 : 40 < (n3 : Int)
  · have H0 : Hid (fewD d = false) := Lib.hid (hbig (by omega))
    clear hbig hcn hst hct hN hT
    go_enter Tryz.func25, Tryz.ntmps25
    go_wp2
    go_ret
    exact ⟨by rw [H0.out]; rfl, HB0.out _⟩
  by_cases c4 : 1100 < (n4 : Int)
  · have H0 : Hid (fewD d = false) := Lib.hid (hbig (by omega))
    clear hbig hcn hst hct hN hT
    go_enter Tryz.func25, Tryz.ntmps25
    go_wp2
    go_ret
    exact ⟨by rw [H0.out]; rfl, HB0.out _⟩
  have hC := fun j h1 => hcn (.cells #[.int .i64 d.ty, .slice an n1 cn, .slice au n2 cu, .slice ax n3 ct, .slice ar n4 cr] 29) j h1
  have hS := hst (.cells #[.int .i64 d.ty, .slice an n1 cn, .slice au n2 cu, .slice ax n3 ct, .slice ar n4 cr] 29)
  have hT2 := hct (.cells #[.int .i64 d.ty, .slice an n1 cn, .slice au n2 cu, .slice ax n3 ct, .slice ar n4 cr] 29)
  have hB1 := Lib.hid (HB0.out (.cells #[.int .i64 d.ty, .slice an n1 cn, .slice au n2 cu, .slice ax n3 ct, .slice ar n4 cr] 29))
  clear hcn hst hct hbig HB0
  go_enter Tryz.func25, Tryz.ntmps25
  go_wp2
  generalize w.alloc (.cells #[.int .i64 d.ty, .slice an n1 cn, .slice au n2 cu, .slice ax n3 ct, .slice ar n4 cr] 29) = W0 at *
  have HFF : Hid (∀ (k : Nat) (h : k < d.names.length), fewN d.names[k] = false → fewD d = false) := Lib.hid (fun k h e => by
    unfold fewD
    rw [decide_eq_false (p := ∀ n ∈ d.names, fewN n = true) (fun hh => by have := hh _ (List.getElem_mem h); rw [e] at this; cases this)]
    simp)
  have HFT : Hid (∀ (k : Nat) (h : k < d.texts.length), 300 < d.texts[k].length → fewD d = false) := Lib.hid (fun k h e => by
    unfold fewD
    rw [decide_eq_false (p := ∀ x ∈ d.texts, x.length ≤ 300) (fun hh => by have := hh _ (List.getElem_mem h); omega)]
    simp)
  have HFO : Hid ((∀ n ∈ d.names, fewN n = true) → (∀ x ∈ d.texts, x.length ≤ 300) → fewD d = true) := Lib.hid (fun h1 h2 => by
    unfold fewD
    rw [decide_eq_true h1, decide_eq_true h2, decide_eq_true]
    · rfl
    · have := E24.out; have := E3.out; have := SL.out; have := E1.out; omega)
  go_loopw [3] (fun i wr => ∃ k : Nat, i = .int .i64 k ∧ k ≤ n1 ∧ Hid (∀ n ∈ d.names.take k, fewN n = true) ∧ W0 = wr) (fun i _ => n1 - (intOf i).toNat)
  case atStart => exact ⟨0, rfl, Nat.zero_le _, Lib.hid (by simp), by first | rfl | trivial⟩
  case round =>
    obtain ⟨k, rfl, hk, HC, rfl⟩ := hrel
    by_cases hlt : k < n1
    · have hkv : k < vs.length := by rw [E1.out]; exact hlt
      have hkd : k < d.names.length := by rw [← SL.out]; exact hkv
      obtain ⟨g, off, rfl, hg, hc⟩ := hC k hkv
      have hNk := hN _ (List.getElem_mem hkd)
      have hF := law2_Few _ _ W0 (hS k hkv hkd) hNk.1 hNk.2
      have HT := Lib.hid (show fewN d.names[k] = true → ∀ n ∈ d.names.take (k + 1), fewN n = true from fun e n hn => by
        rw [List.take_succ_eq_append_getElem hkd] at hn
        rcases List.mem_append.1 hn with hn | hn
        · exact HC.out n hn
        · rw [List.mem_singleton.1 hn]; exact e)
      have HF0 := Lib.hid (HFF.out k hkd)
      clear hC hS hNk hT2 hN hT
      generalize vs[k] = sv at *
      generalize fewN d.names[k] = q at *
      cases q with
      | false =>
        have H0 : Hid (fewD d = false) := Lib.hid (HF0.out rfl)
        go_wp2_with (go_at_call 24; refine hF.mono ?_; rintro e w2 ⟨rfl, rfl⟩)
        go_ret
        exact ⟨by rw [H0.out]; rfl, hB1.out⟩
      | true =>
        go_wp2_with (go_at_call 24; refine hF.mono ?_; rintro e w2 ⟨rfl, rfl⟩)
        go_roundw
        case rel => exact ⟨k + 1, by go_num, by omega, Lib.hid (by first | exact HT.out rfl | exact HT.out trivial), by first | rfl | trivial⟩
        case measure => simp [intOf]; omega
    · obtain rfl : k = n1 := by omega
      have HN1 : Hid (∀ n ∈ d.names, fewN n = true) := Lib.hid (by
        have e := HC.out
        rw [List.take_of_length_le (by have := SL.out; have := E1.out; omega)] at e
        exact e)
      clear hC hS hN HC
      go_wp2
      go_loopw [4] (fun i wr => ∃ j : Nat, i = .int .i64 j ∧ j ≤ n3 ∧ Hid (∀ x ∈ d.texts.take j, x.length ≤ 300) ∧ W0 = wr) (fun i _ => n3 - (intOf i).toNat)
      case atStart => exact ⟨0, rfl, Nat.zero_le _, Lib.hid (by simp), by first | rfl | trivial⟩
      case round =>
        obtain ⟨j, rfl, hj, HC, rfl⟩ := hrel
        by_cases hlt2 : j < n3
        · have hjt : j < d.texts.length := by rw [E3.out]; exact hlt2
          obtain ⟨g, off, rfl, hg, hc⟩ := hT2 j hjt
          obtain ⟨s, hs0, hsz, hsv⟩ := str_of d.texts[j]
          rw [hsv] at hc
          have hxk := hT _ (List.getElem_mem hjt)
          unfold maxLen at hxk
          rw [← hsz] at hxk
          by_cases hb : 300 < (s.size : Int)
          · have H0 : Hid (fewD d = false) := Lib.hid (HFT.out j hjt (by omega))
            clear hs0 hsz hsv hT2 hT
            go_wp2
            go_ret
            exact ⟨by rw [H0.out]; rfl, hB1.out⟩
          · have HT : Hid (∀ x ∈ d.texts.take (j + 1), x.length ≤ 300) := Lib.hid (fun n hn => by
              rw [List.take_succ_eq_append_getElem hjt] at hn
              rcases List.mem_append.1 hn with hn | hn
              · exact HC.out n hn
              · rw [List.mem_singleton.1 hn]; omega)
            clear hs0 hsz hsv hT2 hT
            go_wp2
            go_roundw
            case rel => exact ⟨j + 1, by go_num, by omega, HT, by first | rfl | trivial⟩
            case measure => simp [intOf]; omega
        · obtain rfl : j = n3 := by omega
          have H0 : Hid (fewD d = true) := Lib.hid (HFO.out HN1.out (by
            have e := HC.out
            rw [List.take_of_length_le (by have := E3.out; omega)] at e
            exact e))
          clear hT2 hT
          go_wp2
          go_ret
          exact ⟨by rw [H0.out]; rfl, hB1.out⟩
end Go.Proofs.YtfcdajldpnomfaaGreatDoor

