/-
  What the library's sort asks of a program at a struct of k cells: its types; swapRange.
-/
import Derived.Test.YtfcdajldpnomfaaGreatDoorMQ34
import Derived.RegionCalls
import Derived.WalkKit
import Derived.Deep.LoopGhost
import Derived.Shelf.RegionOpenPlain
import Derived.Test.YtfcdajldpnomfaaGreatDoorMQ39
import Derived.Test.YtfcdajldpnomfaaGreatDoorMQ27
import Derived.Test.YtfcdajldpnomfaaGreatDoorMQ31
namespace Go.Proofs.YtfcdajldpnomfaaGreatDoor
set_option maxRecDepth 20000
open Go.RowKit Go.Shelf Go.Sort Go.Lib
set_option linter.unusedVariables false
set_option linter.unusedSimpArgs false
set_option linter.unusedSectionVars false

structure SLay (P : Program) (k : Nat) : Prop where
  mixed : P.follows .mixedOrders = true
  t0 : P.underlying 0 = some (.tuple #[])
  a0 : ∀ w, (isAgg 0).run P w = .ok false w
  z0 : ∀ w, (Go.sizeOf 0).run P w = .ok 1 w
  v0 : ∀ w, (zeroValue 0).run P w = .ok (.tuple #[]) w
  t3 : P.underlying 3 = some (.int .i64)
  a3 : ∀ w, (isAgg 3).run P w = .ok false w
  z3 : ∀ w, (Go.sizeOf 3).run P w = .ok 1 w
  v3 : ∀ w, (zeroValue 3).run P w = .ok (.int .i64 0) w
  t4 : P.underlying 4 = some (.bool)
  a4 : ∀ w, (isAgg 4).run P w = .ok false w
  z4 : ∀ w, (Go.sizeOf 4).run P w = .ok 1 w
  v4 : ∀ w, (zeroValue 4).run P w = .ok (.bool false) w
  t85 : P.underlying 154 = some (.int .u64)
  a85 : ∀ w, (isAgg 154).run P w = .ok false w
  z85 : ∀ w, (Go.sizeOf 154).run P w = .ok 1 w
  v85 : ∀ w, (zeroValue 154).run P w = .ok (.int .u64 0) w
  t43 : P.underlying 34 = some (.slice 31)
  a43 : ∀ w, (isAgg 34).run P w = .ok false w
  z43 : ∀ w, (Go.sizeOf 34).run P w = .ok 1 w
  v43 : ∀ w, (zeroValue 34).run P w = .ok (.slice none 0 0) w
  t69 : P.underlying 45 = some (.func #[31, 31] #[3] false)
  a69 : ∀ w, (isAgg 45).run P w = .ok false w
  z69 : ∀ w, (Go.sizeOf 45).run P w = .ok 1 w
  v69 : ∀ w, (zeroValue 45).run P w = .ok (.nilFunc) w
  aE : ∀ w, (isAgg 31).run P w = .ok true w
  zE : ∀ w, (Go.sizeOf 31).run P w = .ok k w
theorem slay_here : SLay Tryz.prog 7 where
  mixed := by kernel_rfl
  t0 := Tryz.underlying0
  a0 := Tryz.isAgg0
  z0 := Tryz.sizeOf0
  v0 := Tryz.zeroValue0
  t3 := Tryz.underlying3
  a3 := Tryz.isAgg3
  z3 := Tryz.sizeOf3
  v3 := Tryz.zeroValue3
  t4 := Tryz.underlying4
  a4 := Tryz.isAgg4
  z4 := Tryz.sizeOf4
  v4 := Tryz.zeroValue4
  t85 := Tryz.underlying154
  a85 := Tryz.isAgg154
  z85 := Tryz.sizeOf154
  v85 := Tryz.zeroValue154
  t43 := Tryz.underlying34
  a43 := Tryz.isAgg34
  z43 := Tryz.sizeOf34
  v43 := Tryz.zeroValue34
  t69 := Tryz.underlying45
  a69 := Tryz.isAgg45
  z69 := Tryz.sizeOf45
  v69 := Tryz.zeroValue45
  aE := Tryz.isAgg31
  zE := Tryz.sizeOf31

variable {P : Program} {α : Type} [Inhabited α]

/-- What an exchange of ranges leaves. -/
def SwrPost (enc : α → List Value) (k : Nat) (w : World) (blk off : Nat) (d : Array α) (a b n : Nat) (e : Ending) (w' : World) : Prop :=
  e = .returned (.tuple #[]) ∧ ∃ d' : Array α, d'.size = d.size ∧ (∀ x, x < d.size → d'[x]! = Stb.swr a b n (fun i => d[i]!) x) ∧ PermIn a (b + n) d d' ∧ SW enc k w blk off d' w'
structure SwrAt (enc : α → List Value) (k : Nat) (w : World) (blk off : Nat) (d : Array α) (a b i : Nat) (m : Nat) (dk : Array α) (W : World) : Prop where
  size : dk.size = d.size
  at_ : ∀ x, x < d.size → dk[x]! = Stb.swr a b i (fun i => d[i]!) x
  perm : PermIn a m d dk
  sw : SW enc k w blk off dk W

set_option maxHeartbeats 4000000 in
set_option maxRecDepth 1000000 in
theorem sort_swapRange {k : Nat} (L : SLay P k) (hF : P.funcs[155]? = some Tryz.f155) (enc : α → List Value) (hk : ∀ x, (enc x).length = k) (h1 : ∀ x, ∀ v ∈ enc x, v.oneCell' = true)
    (blk off cap a b n : Nat) (d : Array α) (fv : Value) (w : World) (hH : HoldsK enc k w blk off d) (hlt : blk < w.heap.size) (hab : a + n ≤ b) (hb : b + n ≤ d.size) (hsz : d.size < 4611686018427387904) :
    Calls P 155 #[.slice (some ⟨blk, off, none⟩) d.size cap, .int .i64 a, .int .i64 b, .int .i64 n, fv] w (SwrPost enc k w blk off d a b n) := by
  have mixed := L.mixed; have t0 := L.t0; have a0 := L.a0; have z0 := L.z0; have v0 := L.v0; have t3 := L.t3; have a3 := L.a3; have z3 := L.z3; have v3 := L.v3; have t4 := L.t4; have a4 := L.a4; have z4 := L.z4; have v4 := L.v4; have t85 := L.t85; have a85 := L.a85; have z85 := L.z85; have v85 := L.v85; have t43 := L.t43; have a43 := L.a43; have z43 := L.z43; have v43 := L.v43; have t69 := L.t69; have a69 := L.a69; have z69 := L.z69; have v69 := L.v69; have aE := L.aE; have zE := L.zE
  have u43 := run_underlying L.t43
  have HK := Lib.hid hk; have H1 := Lib.hid h1
  have HS0 : Hid (SwrAt enc k w blk off d a b 0 (b + n) d w) := Lib.hid ⟨rfl, fun x _ => (Stb.swr_zero a b _ x).symm, permIn_refl d a _, SW.refl hH hlt⟩
  clear hH hlt hk h1
  go_enter hF, Tryz.ntmps155
  go_wp2
  go_loopw [10] (fun vi wr => ∃ (i : Nat) (dk : Array α), vi = .int .i64 i ∧ i ≤ n ∧ Hid (SwrAt enc k w blk off d a b i (b + n) dk wr)) (fun vi _ => n - (intOf vi).toNat)
  case atStart => exact ⟨0, d, rfl, Nat.zero_le _, HS0⟩
  case round =>
    obtain ⟨i, dk, rfl, hi, HS⟩ := hrel
    by_cases hin : i < n
    · have hinz : (i : Int) < (n : Int) := by omega
      obtain ⟨xa, hxa⟩ : ∃ x, dk[a + i]! = x := ⟨_, rfl⟩
      obtain ⟨xb, hxb⟩ : ∃ x, dk[b + i]! = x := ⟨_, rfl⟩
      have hsk := HS.out.size
      have hD := HS.out.sw.drew
      have la := hD.load P HK.out (a + i) (by omega)
      have lb := hD.load P HK.out (b + i) (by omega)
      have s1 := hD.store1 P HK.out H1.out (a + i) (by omega) xb
      have s2 := hD.store2 P HK.out H1.out (a + i) (b + i) (by omega) (by omega) xb xa
      rw [hxa] at la
      rw [hxb] at lb
      have hsa : (enc xa).length = k := HK.out _
      have hsb : (enc xb).length = k := HK.out _
      have HN : Hid (SwrAt enc k w blk off d a b (i + 1) (b + n) (swp dk (a + i) (b + i)) ((wr.drew.setCells blk (off + (a + i) * k) (enc xb)).setCells blk (off + (b + i) * k) (enc xa))) := by
        have h := HS.out
        refine Lib.hid ⟨by rw [size_swp]; exact hsk, Stb.swr_step (by omega) (by omega) hsk h.at_, permIn_trans _ _ _ a (b + n) h.perm (swp_permIn dk a (b + n) (a + i) (b + i) (by omega) (by omega) (by omega) (by omega) (by omega)), ?_⟩
        have := hD.swap HK.out (a + i) (b + i) (by omega) (by omega)
        rwa [hxa, hxb] at this
      obtain ⟨ca, hca⟩ : ∃ c, c = enc xa := ⟨_, rfl⟩
      obtain ⟨cb, hcb⟩ : ∃ c, c = enc xb := ⟨_, rfl⟩
      rw [← hca] at la hsa
      rw [← hcb] at lb hsb s1
      rw [← hca, ← hcb] at s2 HN
      have ja : ((a : Int) + (i : Int)) < (d.size : Int) := by omega
      have jb : ((b : Int) + (i : Int)) < (d.size : Int) := by omega
      have pa : (0 : Int) ≤ (a : Int) + (i : Int) := by omega
      have pb : (0 : Int) ≤ (b : Int) + (i : Int) := by omega
      have ea : ((a : Int) + (i : Int)).toNat = a + i := by omega
      have eb : ((b : Int) + (i : Int)).toNat = b + i := by omega
      clear hca hcb hD hsk hxa hxb
      go_wp2_with fail
      go_big_region_o
      all_goals go_wp2
      go_roundw
      case measure => simp [intOf]; omega
      case rel => exact ⟨i + 1, _, by go_num, by omega, HN⟩
    · obtain rfl : i = n := by omega
      go_wp2
      go_end0
      have h := HS.out
      exact ⟨rfl, dk, h.size, h.at_, h.perm, h.sw⟩
end Go.Proofs.YtfcdajldpnomfaaGreatDoor

/-
  The library's sort in place at a struct: a turn of two neighbouring ranges.
-/
namespace Go.Proofs.YtfcdajldpnomfaaGreatDoor
set_option maxRecDepth 20000
open Go.RowKit Go.Shelf Go.Sort Go.Lib
set_option linter.unusedVariables false
set_option linter.unusedSimpArgs false
set_option linter.unusedSectionVars false
variable {P : Program} {α : Type} [Inhabited α]

/-- What a turn leaves. -/
def RotPost (enc : α → List Value) (k : Nat) (w : World) (blk off : Nat) (d : Array α) (a m b : Nat) (e : Ending) (w' : World) : Prop :=
  e = .returned (.tuple #[]) ∧ ∃ d' : Array α, d'.size = d.size ∧ (∀ x, x < d.size → d'[x]! = Stb.rot a m b (fun i => d[i]!) x) ∧ PermIn a b d d' ∧ SW enc k w blk off d' w'
/-- So far: what is left to turn is from m - i to m and from m to m + j. -/
structure RotAt (enc : α → List Value) (k : Nat) (w : World) (blk off : Nat) (d : Array α) (a m b i j : Nat) (dk : Array α) (W : World) : Prop where
  size : dk.size = d.size
  at_ : ∀ x, x < d.size → Stb.rot (m - i) m (m + j) (fun i => dk[i]!) x = Stb.rot a m b (fun i => d[i]!) x
  perm : PermIn a b d dk
  sw : SW enc k w blk off dk W
theorem RotAt.step {enc : α → List Value} {k : Nat} {w : World} {blk off : Nat} {d : Array α} {a m b i j : Nat} {dk : Array α} {W W' : World} (h : RotAt enc k w blk off d a m b i j dk W) {p q n i' j' : Nat} {d' : Array α}
    (hs : d'.size = dk.size) (hd : ∀ x, x < dk.size → d'[x]! = Stb.swr p q n (fun i => dk[i]!) x) (hp : PermIn p (q + n) dk d') (hw : SW enc k W blk off d' W') (hap : a ≤ p) (hqb : q + n ≤ b) (hb : b ≤ d.size) (hj : j' ≤ b - m) (him : i' ≤ m)
    (hr : ∀ x, Stb.rot (m - i') m (m + j') (Stb.swr p q n (fun i => dk[i]!)) x = Stb.rot (m - i) m (m + j) (fun i => dk[i]!) x) (hmb : m ≤ b) : RotAt enc k w blk off d a m b i' j' d' W' := by
  have hsz := h.size
  refine ⟨hs.trans hsz, fun x hx => ?_, permIn_trans _ _ _ a b h.perm (permIn_mono _ _ p (q + n) a b hap hqb (by omega) hp), h.sw.trans hw⟩
  rw [Stb.rot_congr (n := d.size) (f := fun i => d'[i]!) (g := Stb.swr p q n (fun i => dk[i]!)) (by omega) (by omega) (by omega) (fun y hy => hd y (by omega)) x hx, hr, h.at_ x hx]

set_option maxHeartbeats 4000000 in
set_option maxRecDepth 1000000 in
theorem sort_rotate {k : Nat} (L : SLay P k) (hF : P.funcs[154]? = some Tryz.f154) (hFs : P.funcs[155]? = some Tryz.f155)
    (e100 : ∀ args w, (callFunc 155 args).run P w = .ok (.enter 155 args) w) (enc : α → List Value) (hk : ∀ x, (enc x).length = k) (h1 : ∀ x, ∀ v ∈ enc x, v.oneCell' = true)
    (blk off cap a m b : Nat) (d : Array α) (fv : Value) (w : World) (hH : HoldsK enc k w blk off d) (hlt : blk < w.heap.size) (ham : a < m) (hmb : m < b) (hb : b ≤ d.size) (hsz : d.size < 4611686018427387904) :
    Calls P 154 #[.slice (some ⟨blk, off, none⟩) d.size cap, .int .i64 a, .int .i64 m, .int .i64 b, fv] w (RotPost enc k w blk off d a m b) := by
  have mixed := L.mixed; have t0 := L.t0; have a0 := L.a0; have z0 := L.z0; have v0 := L.v0; have t3 := L.t3; have a3 := L.a3; have z3 := L.z3; have v3 := L.v3; have t4 := L.t4; have a4 := L.a4; have z4 := L.z4; have v4 := L.v4; have t85 := L.t85; have a85 := L.a85; have z85 := L.z85; have v85 := L.v85; have t43 := L.t43; have a43 := L.a43; have z43 := L.z43; have v43 := L.v43; have t69 := L.t69; have a69 := L.a69; have z69 := L.z69; have v69 := L.v69; have aE := L.aE; have zE := L.zE
  have u43 := run_underlying L.t43
  have HC := Lib.hid (fun (W : World) (dk : Array α) (p q n : Nat) (hs : dk.size = d.size) (hW : SW enc k w blk off dk W) (h1' : p + n ≤ q) (h2 : q + n ≤ d.size) => hs ▸ sort_swapRange L hFs enc hk h1 blk off cap p q n dk fv W hW.row hW.lt' h1' (by omega) (by omega))
  have HS0 : Hid (RotAt enc k w blk off d a m b (m - a) (b - m) d w) := Lib.hid ⟨rfl, fun x _ => by rw [show m - (m - a) = a by omega, show m + (b - m) = b by omega], permIn_refl d a _, SW.refl hH hlt⟩
  clear hH hlt hk h1
  have c1 : (m : Int) - (a : Int) = ((m - a : Nat) : Int) := by omega
  have c2 : (b : Int) - (m : Int) = ((b - m : Nat) : Int) := by omega
  have C1 := Lib.hid c1; have C2 := Lib.hid c2
  clear c1 c2
  go_enter hF, Tryz.ntmps154
  go_wp2
  go_loopw [10, 11] (fun vi vj wr => ∃ (i j : Nat) (dk : Array α), vi = .int .i64 i ∧ vj = .int .i64 j ∧ 0 < i ∧ 0 < j ∧ i ≤ m - a ∧ j ≤ b - m ∧ Hid (RotAt enc k w blk off d a m b i j dk wr)) (fun vi vj _ => (intOf vi).toNat + (intOf vj).toNat)
  case atStart => exact ⟨m - a, b - m, d, by rw [C1.out], by rw [C2.out], by omega, by omega, Nat.le_refl _, Nat.le_refl _, HS0⟩
  case round =>
    obtain ⟨i, j, dk, rfl, rfl, hi0, hj0, hi, hj, HS⟩ := hrel
    have hsk := HS.out.size
    have SK := Lib.hid hsk
    clear hsk
    rcases Nat.lt_trichotomy i j with hij | hij | hij
    · have hne : ¬ (i : Int) = (j : Int) := by omega
      have hgt : ¬ (j : Int) < (i : Int) := by omega
      have hc := HC.out wr dk (m - i) (m + j - i) i SK.out HS.out.sw (by omega) (by omega)
      have e1 : ((m - i : Nat) : Int) = (m : Int) - (i : Int) := by omega
      have e2 : ((m + j - i : Nat) : Int) = (m : Int) + (j : Int) - (i : Int) := by omega
      rw [e1, e2] at hc
      clear e1 e2
      go_wp2_with (go_at_fn 155; refine hc.mono ?_; rintro e w' ⟨rfl, d', g1, g2, g3, g4⟩)
      have HN : Hid (RotAt enc k w blk off d a m b i (j - i) d' w') := Lib.hid (HS.out.step g1 g2 g3 g4 (by omega) (by omega) hb (by omega) (by omega) (fun x => Stb.rot_lt _ (by omega) hij x) (by omega))
      clear g1 g2 g3 g4 hc
      go_roundw
      case measure => simp [intOf]; omega
      case rel => exact ⟨i, j - i, d', rfl, by (congr 1; omega), hi0, by omega, hi, by omega, HN⟩
    · subst hij
      have hc := HC.out wr dk (m - i) m i SK.out HS.out.sw (by omega) (by omega)
      have e1 : ((m - i : Nat) : Int) = (m : Int) - (i : Int) := by omega
      rw [e1] at hc
      clear e1
      go_wp2_with (go_at_fn 155; refine hc.mono ?_; rintro e w' ⟨rfl, d', g1, g2, g3, g4⟩)
      go_end0
      have h := HS.out
      have hs := SK.out
      refine ⟨rfl, d', g1.trans hs, fun x hx => ?_, permIn_trans _ _ _ a b h.perm (permIn_mono _ _ (m - i) (m + i) a b (by omega) (by omega) (by omega) g3), h.sw.trans g4⟩
      rw [g2 x (by omega), Stb.rot_eq _ (by omega), h.at_ x hx]
    · have hne : ¬ (i : Int) = (j : Int) := by omega
      have hgt : (j : Int) < (i : Int) := by omega
      have hc := HC.out wr dk (m - i) m j SK.out HS.out.sw (by omega) (by omega)
      have e1 : ((m - i : Nat) : Int) = (m : Int) - (i : Int) := by omega
      rw [e1] at hc
      clear e1
      go_wp2_with (go_at_fn 155; refine hc.mono ?_; rintro e w' ⟨rfl, d', g1, g2, g3, g4⟩)
      have HN : Hid (RotAt enc k w blk off d a m b (i - j) j d' w') := Lib.hid (HS.out.step g1 g2 g3 g4 (by omega) (by omega) hb (by omega) (by omega) (fun x => Stb.rot_gt _ (by omega) hij x) (by omega))
      clear g1 g2 g3 g4 hc
      go_roundw
      case measure => simp [intOf]; omega
      case rel => exact ⟨i - j, j, d', by (congr 1; omega), rfl, by omega, hj0, by omega, hj, HN⟩
end Go.Proofs.YtfcdajldpnomfaaGreatDoor

/-
  Package rtype's table of names: names, the iterator over its rows.
-/
namespace Go.Proofs.YtfcdajldpnomfaaGreatDoor
set_option maxRecDepth 20000
open Go.RowKit Go.Shelf

/-- The table's rows in block g. -/
def NRow (g : Nat) (W : World) : Prop := g < W.heap.size ∧ ∀ j, j < 9 → W.cell? ⟨g, j * 2, none⟩ = some (.int .i64 (typeT j)) ∧ W.cell? ⟨g, j * 2 + 1, none⟩ = some (strV (typeS j))
theorem NRow.below {g : Nat} {W W' : World} (h : NRow g W) (hb : Below W.heap.size W W') : NRow g W' := ⟨Nat.lt_of_lt_of_le h.1 hb.size, fun j hj =>
  ⟨(hb.cell (p := ⟨g, j * 2, none⟩) h.1).trans (h.2 j hj).1, (hb.cell (p := ⟨g, j * 2 + 1, none⟩) h.1).trans (h.2 j hj).2⟩⟩
def NamesPost (w : World) (e : Ending) (w' : World) : Prop := ∃ g, e = .returned (.agg #[.slice (some ⟨g, 0, none⟩) 9 9]) ∧ NRow g w' ∧ Below w.heap.size w w'

def NamesPost2 (w : World) (e : Ending) (w' : World) : Prop := ∃ g, e = .returned (.agg #[.slice (some ⟨g, 0, none⟩) 9 9]) ∧ NRow g w' ∧ Below w.heap.size w w' ∧ w.heap.size ≤ g

set_option maxHeartbeats 1000000 in
theorem rtype_names2 (w : World) : Calls Tryz.prog 80 #[] w (NamesPost2 w) := by
  go_enter Tryz.func80, Tryz.ntmps80
  go_wp2
  refine bodyPost_ret (v := .agg #[.slice (some ⟨w.heap.size + 1, 0, none⟩) 9 9]) (by simp [results, Tryz.results80, go_sem]) rfl ?_
  refine ⟨_, rfl, ⟨by simp, fun j hj => ?_⟩, ((Below.refl _ _).alloc (Nat.le_refl _) _).alloc (by simp) _, Nat.le_succ _⟩
  have key : ∀ i, i < 18 → ∀ u, ((List.range 18).map fun i => if i % 2 = 0 then Value.int .i64 (typeT (i / 2)) else strV (typeS (i / 2)))[i]? = some u →
      ((w.alloc (.cells #[.slice (some ⟨w.heap.size + 1, 0, none⟩) 9 9] 111)).alloc (.cells ((List.range 18).map fun i => if i % 2 = 0 then Value.int .i64 (typeT (i / 2)) else strV (typeS (i / 2))).toArray 152)).cell? ⟨w.heap.size + 1, i, none⟩ = some u := by
    intro i hi u hu
    have h := cells_new (w.alloc (.cells #[.slice (some ⟨w.heap.size + 1, 0, none⟩) 9 9] 111)) ((List.range 18).map fun i => if i % 2 = 0 then Value.int .i64 (typeT (i / 2)) else strV (typeS (i / 2))) 152 i u hu
    have e : ((⟨(w.alloc (.cells #[.slice (some ⟨w.heap.size + 1, 0, none⟩) 9 9] 111)).heap.size, 0, none⟩ : Addr).add i) = ⟨w.heap.size + 1, i, none⟩ := by unfold Addr.add; by_cases hj : i = 0 <;> simp [hj]
    rw [e] at h
    exact h
  refine ⟨?_, ?_⟩
  · exact key (j * 2) (by omega) _ (by simp [show j * 2 < 18 by omega])
  · exact key (j * 2 + 1) (by omega) _ (by simp [show j * 2 + 1 < 18 by omega, show (j * 2 + 1) / 2 = j by omega, show (j * 2 + 1) % 2 = 1 by omega])

theorem rtype_names (w : World) : Calls Tryz.prog 80 #[] w (NamesPost w) := (rtype_names2 w).mono fun _ _ ⟨g, h1, h2, h3, _⟩ => ⟨g, h1, h2, h3⟩

/-- What a round must keep: the table's box, its rows. -/
def KeepT (b g : Nat) (W W' : World) : Prop := KeepB b W W' ∧ KeepB g W W'
theorem KeepT.refl (b g : Nat) (W : World) : KeepT b g W W := ⟨rfl, rfl⟩
theorem keepT_t {b g : Nat} {A B C : World} (h : KeepT b g A B) (k : KeepT b g B C) : KeepT b g A C := ⟨h.1.trans k.1, h.2.trans k.2⟩
theorem keepT_b {b g : Nat} {w : World} (hb : b < w.heap.size) (hg : g < w.heap.size) (W : World) (l : Nat) (o o' : Obj) (hl : w.heap.size ≤ l) (h : W.heap[l]? = some o) (h1 : o.isCells = false) (h2 : o.isWalk = false) : KeepT b g W (W.putObj l o') :=
  ⟨keepB_b hb W l o o' hl h h1 h2, keepB_b hg W l o o' hl h h1 h2⟩
theorem KeepB.lt {b : Nat} {A B : World} (h : KeepB b A B) (hb : b < A.heap.size) : b < B.heap.size := by
  rcases Nat.lt_or_ge b B.heap.size with h' | h'
  · exact h'
  · unfold KeepB at h; rw [Array.getElem?_eq_none h', Array.getElem?_eq_getElem hb] at h; cases h
def rowV (j : Fin 9) : Array Value := #[.int .i64 (typeT j.val), strV (typeS j.val)]

section
attribute [local go_sem] Oper.semAt_some

set_option maxRecDepth 100000 in
set_option maxHeartbeats 2000000 in
theorem all1_in (n : Nat) (hn : 1 ≤ n) (l b g : Nat) (J Jx : List (Fin 9) → World → Prop)
    (hJ : ∀ pre W o, J pre W → J pre (W.alloc o))
    (hY : ∀ pre x W, J pre W → pre.length < 9 → YieldAt Fence.wide (n - 1) Tryz.prog l (rowV x) W fun e W' =>
      (e = .returned (.bool true) ∧ J (pre ++ [x]) W' ∧ KeepT b g W W') ∨ (e = .returned (.bool false) ∧ Jx (pre ++ [x]) W'))
    (W : World) (hbl : b < W.heap.size) (hgl : g < W.heap.size) (hc : W.cell? ⟨b, 0, none⟩ = some (.slice (some ⟨g, 0, none⟩) 9 9)) (hN : ∀ j, j < 9 → W.cell? ⟨g, j * 2, none⟩ = some (.int .i64 (typeT j)) ∧ W.cell? ⟨g, j * 2 + 1, none⟩ = some (strV (typeS j))) (h0 : J [] W) :
    CallsIn Fence.wide n Tryz.prog 142 #[.func (.yield l) #[] #[], .pointer (some ⟨b, 0, none⟩)] W fun e W' => (∃ v, e = .returned v) ∧
      ((∃ ys, ys = List.finRange 9 ∧ J ys W') ∨ (∃ pre, pre <+: List.finRange 9 ∧ Jx pre W')) := by
  refine callsIn_of_wp Tryz.func142 rfl trivial ?_ rfl
  simp only [Tryz.ntmps142, List.size_toArray, List.length_cons, List.length_nil, Nat.reduceAdd, Nat.reduceSub, Array.replicate_succ, Array.replicate_zero, List.push_toArray, List.append_toArray, List.nil_append, List.cons_append]
  have HN := Lib.hid hN
  clear hN
  gi_wp2
  gi_loopw [8] (fun i wr => ∃ k : Nat, k ≤ 9 ∧ i = .int .i64 k ∧ J ((List.finRange 9).take k) wr ∧ KeepT b g W wr ∧ b < wr.heap.size ∧ g < wr.heap.size)
    (fun i _ => 9 - (intOf i).toNat)
  case atStart => exact ⟨0, by omega, rfl, h0, KeepT.refl _ _ _, hbl, hgl⟩
  case round =>
    obtain ⟨k, hk, rfl, hJs, hnx, hbw, hgw⟩ := hrel
    by_cases hlt : k < 9
    · have c1 := (hnx.2.cell (o := k * 2)).trans (HN.out k hlt).1
      have c2 := (hnx.2.cell (o := k * 2 + 1)).trans (HN.out k hlt).2
      have hY1 := fun W1 (h : J ((List.finRange 9).take k) W1) => hY _ ⟨k, hlt⟩ W1 h (by simp; omega)
      have htk : (List.finRange 9).take (k + 1) = (List.finRange 9).take k ++ [⟨k, hlt⟩] := by
        rw [List.take_succ_eq_append_getElem (by simpa using hlt)]; simp
      unfold rowV at hY1
      simp only at hY1
      generalize typeT k = x at *
      obtain ⟨sk, hsk0, hskz, hskv⟩ := str_of (typeS k)
      rw [hskv] at hY1 c2
      have HTK := Lib.hid htk
      clear hsk0 hskz hskv htk
      obtain ⟨fn, tmps, assign, body, hy, hR⟩ := hY1 (wr.alloc (.cells #[.int .i64 x, .string sk] 152)) (hJ _ _ _ hJs)
      have hka : KeepT b g wr (wr.alloc (.cells #[.int .i64 x, .string sk] 152)) := ⟨KeepB.alloc _ _ (by omega), KeepB.alloc _ _ (by omega)⟩
      clear hY1
      gi_wp2
      refine hR.mono ?_
      rintro e W3 (⟨rfl, hJ3, hk3⟩ | ⟨rfl, hJx3⟩)
      · gi_wp2
        go_roundw
        case rel => exact ⟨k + 1, by omega, by simp, by rw [HTK.out]; exact hJ3, keepT_t hnx (keepT_t hka hk3), (keepT_t hka hk3).1.lt hbw, (keepT_t hka hk3).2.lt hgw⟩
        case measure => simp [intOf]; omega
      · gi_wp2
        refine bodyPost_ret (results_none rfl _ _ _) rfl ?_
        exact ⟨⟨_, rfl⟩, .inr ⟨_, by rw [← HTK.out]; exact List.take_prefix _ _, hJx3⟩⟩
    · obtain rfl : k = 9 := by omega
      gi_wp2
      go_end0
      exact ⟨⟨_, rfl⟩, .inl ⟨_, by rw [List.take_of_length_le (by simp)], hJs⟩⟩

theorem all_stops (n : Nat) (hn : 1 ≤ n) (b g : Nat) (w : World) (hb : b < w.heap.size) (hc : w.cell? ⟨b, 0, none⟩ = some (.slice (some ⟨g, 0, none⟩) 9 9)) (hN : NRow g w) :
    SeqStopsK Fence.wide n Tryz.prog 142 #[.pointer (some ⟨b, 0, none⟩)] rowV (KeepT b g) (fun ys => ys = List.finRange 9) (fun pre => pre <+: List.finRange 9) 9 w := fun l J Jx W hW hJ _ hY h0 =>
  all1_in n hn l b g J Jx (fun pre W' o h => hJ pre W' _ none h (World.grownBy_alloc W' o none) (fun _ e => by cases e)) hY W (Nat.lt_of_lt_of_le hb hW.size) (Nat.lt_of_lt_of_le hN.1 hW.size) ((hW.cell (p := ⟨b, 0, none⟩) hb).trans hc) (hN.below hW).2 h0

set_option maxHeartbeats 400000 in
theorem table_all (v : Value) (w : World) :
    Calls Tryz.prog 121 #[.agg #[v]] w fun e w' => e = .returned (.func (.func 142) #[] #[.pointer (some ⟨w.heap.size, 0, none⟩)]) ∧ w' = w.alloc (.cells #[v] 111) := by
  go_enter Tryz.func121, Tryz.ntmps121
  go_wp2
  go_ret
  exact ⟨rfl, rfl⟩
end
end Go.Proofs.YtfcdajldpnomfaaGreatDoor

