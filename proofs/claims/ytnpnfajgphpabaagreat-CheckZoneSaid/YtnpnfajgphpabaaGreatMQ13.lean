import Derived.RegionCalls
import Derived.WalkKit
import Derived.Deep.LoopGhost
import Derived.Shelf.RegionOpenPlain
import Derived.ProofKit
import Derived.OpenShut
import Derived.ShutString
import Derived.ChangeArms
import Derived.ChangeSlices
import Derived.SliceStrings
import Derived.Deep.Slices
import Derived.Shelf.Vars
import Derived.Handed
import Derived.HandedShaped
import Derived.Test.YtnpnfajgphpabaaGreatMQ36
namespace Go.Proofs.YtnpnfajgphpabaaGreat.Fls
set_option maxRecDepth 1000000
set_option maxHeartbeats 4000000
open Go.RowKit Go.Shelf Go.Sort Go.Lib
set_option linter.unusedSectionVars false
structure SLay (P : Program) (k : Nat) : Prop where
 mixed : P.follows .mixedOrders = true
 t0 : P.underlying 0 = some (.tuple #[])
 a0 : ∀ w, (isAgg 0).run P w = .ok false w
 z0 : ∀ w, (Go.sizeOf 0).run P w = .ok 1 w
 v0 : ∀ w, (zeroValue 0).run P w = .ok (.tuple #[]) w
 t3 : P.underlying 3 = some (.int .i64)
 a3 : ∀ w, (isAgg 3).run P w = .ok false w
 z3 : ∀ w, (Go.sizeOf 3).run P w = .ok 1 w
 v3 : ∀ w, (zeroValue 3).run P w = .ok (.int .i64 0) w
 t4 : P.underlying 4 = some (.bool)
 a4 : ∀ w, (isAgg 4).run P w = .ok false w
 z4 : ∀ w, (Go.sizeOf 4).run P w = .ok 1 w
 v4 : ∀ w, (zeroValue 4).run P w = .ok (.bool false) w
 t85 : P.underlying 153 = some (.int .u64)
 a85 : ∀ w, (isAgg 153).run P w = .ok false w
 z85 : ∀ w, (Go.sizeOf 153).run P w = .ok 1 w
 v85 : ∀ w, (zeroValue 153).run P w = .ok (.int .u64 0) w
 t43 : P.underlying 28 = some (.slice 49)
 a43 : ∀ w, (isAgg 28).run P w = .ok false w
 z43 : ∀ w, (Go.sizeOf 28).run P w = .ok 1 w
 v43 : ∀ w, (zeroValue 28).run P w = .ok (.slice none 0 0) w
 t69 : P.underlying 52 = some (.func #[49, 49] #[3] false)
 a69 : ∀ w, (isAgg 52).run P w = .ok false w
 z69 : ∀ w, (Go.sizeOf 52).run P w = .ok 1 w
 v69 : ∀ w, (zeroValue 52).run P w = .ok (.nilFunc) w
 aE : ∀ w, (isAgg 49).run P w = .ok true w
 zE : ∀ w, (Go.sizeOf 49).run P w = .ok k w
theorem slay_here : SLay Tryz.prog 3 where
 mixed := by kernel_rfl
 t0 := Tryz.underlying0
 a0 := Tryz.isAgg0
 z0 := Tryz.sizeOf0
 v0 := Tryz.zeroValue0
 t3 := Tryz.underlying3
 a3 := Tryz.isAgg3
 z3 := Tryz.sizeOf3
 v3 := Tryz.zeroValue3
 t4 := Tryz.underlying4
 a4 := Tryz.isAgg4
 z4 := Tryz.sizeOf4
 v4 := Tryz.zeroValue4
 t85 := Tryz.underlying153
 a85 := Tryz.isAgg153
 z85 := Tryz.sizeOf153
 v85 := Tryz.zeroValue153
 t43 := Tryz.underlying28
 a43 := Tryz.isAgg28
 z43 := Tryz.sizeOf28
 v43 := Tryz.zeroValue28
 t69 := Tryz.underlying52
 a69 := Tryz.isAgg52
 z69 := Tryz.sizeOf52
 v69 := Tryz.zeroValue52
 aE := Tryz.isAgg49
 zE := Tryz.sizeOf49
variable {P : Program} {α : Type} [Inhabited α]
def qe6 (enc : α → List Value) (k : Nat) (w : World) (blk off : Nat) (d : Array α) (a b n : Nat) (e : Ending) (w' : World) : Prop :=
 e = .returned (.tuple #[]) ∧ ∃ d' : Array α, d'.size = d.size ∧ (∀ x, x < d.size → d'[x]! = Stb.swr a b n (fun i => d[i]!) x) ∧ PermIn a (b + n) d d' ∧ SW enc k w blk off d' w'
structure SwrAt (enc : α → List Value) (k : Nat) (w : World) (blk off : Nat) (d : Array α) (a b i : Nat) (m : Nat) (dk : Array α) (W : World) : Prop where
 size : dk.size = d.size
 at_ : ∀ x, x < d.size → dk[x]! = Stb.swr a b i (fun i => d[i]!) x
 perm : PermIn a m d dk
 sw : SW enc k w blk off dk W
theorem qbR {k : Nat} (L : SLay P k) (hF : P.funcs[116]? = some Tryz.f116) (enc : α → List Value) (hk : ∀ x, (enc x).length = k) (h1 : ∀ x, ∀ v ∈ enc x, v.oneCell' = true)
 (blk off cap a b n : Nat) (d : Array α) (fv : Value) (w : World) (hH : HoldsK enc k w blk off d) (hlt : blk < w.heap.size) (hab : a + n ≤ b) (hb : b + n ≤ d.size) (hsz : d.size < 4611686018427387904) :
 Calls P 116 #[.slice (some ⟨blk, off, none⟩) d.size cap, .int .i64 a, .int .i64 b, .int .i64 n, fv] w (qe6 enc k w blk off d a b n) := by
 have mixed := L.mixed; have t0 := L.t0; have a0 := L.a0; have z0 := L.z0; have v0 := L.v0; have t3 := L.t3; have a3 := L.a3; have z3 := L.z3; have v3 := L.v3; have t4 := L.t4; have a4 := L.a4; have z4 := L.z4; have v4 := L.v4; have t85 := L.t85; have a85 := L.a85; have z85 := L.z85; have v85 := L.v85; have t43 := L.t43; have a43 := L.a43; have z43 := L.z43; have v43 := L.v43; have t69 := L.t69; have a69 := L.a69; have z69 := L.z69; have v69 := L.v69; have aE := L.aE; have zE := L.zE
 have u43 := run_underlying L.t43
 have HK := qH0 hk; have H1 := qH0 h1
 have HS0 : Hid (SwrAt enc k w blk off d a b 0 (b + n) d w) := qH0 ⟨rfl, fun x _ => (Stb.swr_zero a b _ x).symm, permIn_refl d a _, SW.refl hH hlt⟩
 clear hH hlt hk h1
 go_enter hF, Tryz.ntmps116
 go_wp2
 go_loopw [10] (fun vi wr => ∃ (i : Nat) (dk : Array α), vi = .int .i64 i ∧ i ≤ n ∧ Hid (SwrAt enc k w blk off d a b i (b + n) dk wr)) (fun vi _ => n - (intOf vi).toNat)
 case atStart => exact ⟨0, d, rfl, Nat.zero_le _, HS0⟩
 case round =>
  obtain ⟨i, dk, rfl, hi, HS⟩ := hrel
  by_cases hin : i < n
  ·have hinz : (i : Int) < (n : Int) := by omega
   obtain ⟨xa, hxa⟩ : ∃ x, dk[a + i]! = x := ⟨_, rfl⟩
   obtain ⟨xb, hxb⟩ : ∃ x, dk[b + i]! = x := ⟨_, rfl⟩
   have hsk := HS.out.size
   have hD := HS.out.sw.drew
   have la := hD.load P HK.out (a + i) (by omega)
   have lb := hD.load P HK.out (b + i) (by omega)
   have s1 := hD.store1 P HK.out H1.out (a + i) (by omega) xb
   have s2 := hD.store2 P HK.out H1.out (a + i) (b + i) (by omega) (by omega) xb xa
   rw [hxa] at la
   rw [hxb] at lb
   have hsa : (enc xa).length = k := HK.out _
   have hsb : (enc xb).length = k := HK.out _
   have HN : Hid (SwrAt enc k w blk off d a b (i + 1) (b + n) (swp dk (a + i) (b + i)) ((wr.drew.setCells blk (off + (a + i) * k) (enc xb)).setCells blk (off + (b + i) * k) (enc xa))) := by
    have h := HS.out
    refine qH0 ⟨by rw [size_swp]; exact hsk, Stb.swr_step (by omega) (by omega) hsk h.at_, permIn_trans _ _ _ a (b + n) h.perm (swp_permIn dk a (b + n) (a + i) (b + i) (by omega) (by omega) (by omega) (by omega) (by omega)), ?_⟩
    have := hD.swap HK.out (a + i) (b + i) (by omega) (by omega)
    rwa [hxa, hxb] at this
   obtain ⟨ca, hca⟩ : ∃ c, c = enc xa := ⟨_, rfl⟩
   obtain ⟨cb, hcb⟩ : ∃ c, c = enc xb := ⟨_, rfl⟩
   rw [← hca] at la hsa
   rw [← hcb] at lb hsb s1
   rw [← hca, ← hcb] at s2 HN
   have ja : ((a : Int) + (i : Int)) < (d.size : Int) := by omega
   have jb : ((b : Int) + (i : Int)) < (d.size : Int) := by omega
   have pa : (0 : Int) ≤ (a : Int) + (i : Int) := by omega
   have pb : (0 : Int) ≤ (b : Int) + (i : Int) := by omega
   have ea : ((a : Int) + (i : Int)).toNat = a + i := by omega
   have eb : ((b : Int) + (i : Int)).toNat = b + i := by omega
   clear hca hcb hD hsk hxa hxb
   go_wp2_with fail
   go_big_region_o
   all_goals go_wp2
   go_roundw
   case measure => simp [intOf]; omega
   case rel => exact ⟨i + 1, _, by go_num, by omega, HN⟩
  ·obtain rfl : i = n := by omega
   go_wp2
   go_end0
   have h := HS.out
   exact ⟨rfl, dk, h.size, h.at_, h.perm, h.sw⟩
end Go.Proofs.YtnpnfajgphpabaaGreat.Fls

namespace Go.Proofs.YtnpnfajgphpabaaGreat.Fls
set_option maxRecDepth 1000000
set_option maxHeartbeats 4000000
open Go.RowKit Go.Shelf Go.Sort Go.Lib
set_option linter.unusedSectionVars false
variable {P : Program} {α : Type} [Inhabited α]
def qfc (enc : α → List Value) (k : Nat) (w : World) (blk off : Nat) (d : Array α) (a m b : Nat) (e : Ending) (w' : World) : Prop :=
 e = .returned (.tuple #[]) ∧ ∃ d' : Array α, d'.size = d.size ∧ (∀ x, x < d.size → d'[x]! = Stb.rot a m b (fun i => d[i]!) x) ∧ PermIn a b d d' ∧ SW enc k w blk off d' w'
structure RotAt (enc : α → List Value) (k : Nat) (w : World) (blk off : Nat) (d : Array α) (a m b i j : Nat) (dk : Array α) (W : World) : Prop where
 size : dk.size = d.size
 at_ : ∀ x, x < d.size → Stb.rot (m - i) m (m + j) (fun i => dk[i]!) x = Stb.rot a m b (fun i => d[i]!) x
 perm : PermIn a b d dk
 sw : SW enc k w blk off dk W
theorem RotAt.step {enc : α → List Value} {k : Nat} {w : World} {blk off : Nat} {d : Array α} {a m b i j : Nat} {dk : Array α} {W W' : World} (h : RotAt enc k w blk off d a m b i j dk W) {p q n i' j' : Nat} {d' : Array α}
 (hs : d'.size = dk.size) (hd : ∀ x, x < dk.size → d'[x]! = Stb.swr p q n (fun i => dk[i]!) x) (hp : PermIn p (q + n) dk d') (hw : SW enc k W blk off d' W') (hap : a ≤ p) (hqb : q + n ≤ b) (hb : b ≤ d.size) (hj : j' ≤ b - m) (him : i' ≤ m)
 (hr : ∀ x, Stb.rot (m - i') m (m + j') (Stb.swr p q n (fun i => dk[i]!)) x = Stb.rot (m - i) m (m + j) (fun i => dk[i]!) x) (hmb : m ≤ b) : RotAt enc k w blk off d a m b i' j' d' W' := by
 have hsz := h.size
 refine ⟨hs.trans hsz, fun x hx => ?_, permIn_trans _ _ _ a b h.perm (permIn_mono _ _ p (q + n) a b hap hqb (by omega) hp), h.sw.trans hw⟩
 rw [Stb.rot_congr (n := d.size) (f := fun i => d'[i]!) (g := Stb.swr p q n (fun i => dk[i]!)) (by omega) (by omega) (by omega) (fun y hy => hd y (by omega)) x hx, hr, h.at_ x hx]
theorem qcB {k : Nat} (L : SLay P k) (hF : P.funcs[101]? = some Tryz.f101) (hFs : P.funcs[116]? = some Tryz.f116)
 (e100 : ∀ args w, (callFunc 116 args).run P w = .ok (.enter 116 args) w) (enc : α → List Value) (hk : ∀ x, (enc x).length = k) (h1 : ∀ x, ∀ v ∈ enc x, v.oneCell' = true)
 (blk off cap a m b : Nat) (d : Array α) (fv : Value) (w : World) (hH : HoldsK enc k w blk off d) (hlt : blk < w.heap.size) (ham : a < m) (hmb : m < b) (hb : b ≤ d.size) (hsz : d.size < 4611686018427387904) :
 Calls P 101 #[.slice (some ⟨blk, off, none⟩) d.size cap, .int .i64 a, .int .i64 m, .int .i64 b, fv] w (qfc enc k w blk off d a m b) := by
 have mixed := L.mixed; have t0 := L.t0; have a0 := L.a0; have z0 := L.z0; have v0 := L.v0; have t3 := L.t3; have a3 := L.a3; have z3 := L.z3; have v3 := L.v3; have t4 := L.t4; have a4 := L.a4; have z4 := L.z4; have v4 := L.v4; have t85 := L.t85; have a85 := L.a85; have z85 := L.z85; have v85 := L.v85; have t43 := L.t43; have a43 := L.a43; have z43 := L.z43; have v43 := L.v43; have t69 := L.t69; have a69 := L.a69; have z69 := L.z69; have v69 := L.v69; have aE := L.aE; have zE := L.zE
 have u43 := run_underlying L.t43
 have HC := qH0 (fun (W : World) (dk : Array α) (p q n : Nat) (hs : dk.size = d.size) (hW : SW enc k w blk off dk W) (h1' : p + n ≤ q) (h2 : q + n ≤ d.size) => hs ▸ qbR L hFs enc hk h1 blk off cap p q n dk fv W hW.row hW.lt' h1' (by omega) (by omega))
 have HS0 : Hid (RotAt enc k w blk off d a m b (m - a) (b - m) d w) := qH0 ⟨rfl, fun x _ => by rw [show m - (m - a) = a by omega, show m + (b - m) = b by omega], permIn_refl d a _, SW.refl hH hlt⟩
 clear hH hlt hk h1
 have c1 : (m : Int) - (a : Int) = ((m - a : Nat) : Int) := by omega
 have c2 : (b : Int) - (m : Int) = ((b - m : Nat) : Int) := by omega
 have C1 := qH0 c1; have C2 := qH0 c2
 clear c1 c2
 go_enter hF, Tryz.ntmps101
 go_wp2
 go_loopw [10, 11] (fun vi vj wr => ∃ (i j : Nat) (dk : Array α), vi = .int .i64 i ∧ vj = .int .i64 j ∧ 0 < i ∧ 0 < j ∧ i ≤ m - a ∧ j ≤ b - m ∧ Hid (RotAt enc k w blk off d a m b i j dk wr)) (fun vi vj _ => (intOf vi).toNat + (intOf vj).toNat)
 case atStart => exact ⟨m - a, b - m, d, by rw [C1.out], by rw [C2.out], by omega, by omega, qN0, qN0, HS0⟩
 case round =>
  obtain ⟨i, j, dk, rfl, rfl, hi0, hj0, hi, hj, HS⟩ := hrel
  have hsk := HS.out.size
  have SK := qH0 hsk
  clear hsk
  rcases Nat.lt_trichotomy i j with hij | hij | hij
  ·have hne : ¬ (i : Int) = (j : Int) := by omega
   have hgt : ¬ (j : Int) < (i : Int) := by omega
   have hc := HC.out wr dk (m - i) (m + j - i) i SK.out HS.out.sw (by omega) (by omega)
   have e1 : ((m - i : Nat) : Int) = (m : Int) - (i : Int) := by omega
   have e2 : ((m + j - i : Nat) : Int) = (m : Int) + (j : Int) - (i : Int) := by omega
   rw [e1, e2] at hc
   clear e1 e2
   go_wp2_with (go_at_fn 116; refine hc.mono ?_; rintro e w' ⟨rfl, d', g1, g2, g3, g4⟩)
   have HN : Hid (RotAt enc k w blk off d a m b i (j - i) d' w') := qH0 (HS.out.step g1 g2 g3 g4 (by omega) (by omega) hb (by omega) (by omega) (fun x => Stb.rot_lt _ (by omega) hij x) (by omega))
   clear g1 g2 g3 g4 hc
   go_roundw
   case measure => simp [intOf]; omega
   case rel => exact ⟨i, j - i, d', rfl, by (congr 1; omega), hi0, by omega, hi, by omega, HN⟩
  ·subst hij
   have hc := HC.out wr dk (m - i) m i SK.out HS.out.sw (by omega) (by omega)
   have e1 : ((m - i : Nat) : Int) = (m : Int) - (i : Int) := by omega
   rw [e1] at hc
   clear e1
   go_wp2_with (go_at_fn 116; refine hc.mono ?_; rintro e w' ⟨rfl, d', g1, g2, g3, g4⟩)
   go_end0
   have h := HS.out
   have hs := SK.out
   refine ⟨rfl, d', g1.trans hs, fun x hx => ?_, permIn_trans _ _ _ a b h.perm (permIn_mono _ _ (m - i) (m + i) a b (by omega) (by omega) (by omega) g3), h.sw.trans g4⟩
   rw [g2 x (by omega), Stb.rot_eq _ (by omega), h.at_ x hx]
  ·have hne : ¬ (i : Int) = (j : Int) := by omega
   have hgt : (j : Int) < (i : Int) := by omega
   have hc := HC.out wr dk (m - i) m j SK.out HS.out.sw (by omega) (by omega)
   have e1 : ((m - i : Nat) : Int) = (m : Int) - (i : Int) := by omega
   rw [e1] at hc
   clear e1
   go_wp2_with (go_at_fn 116; refine hc.mono ?_; rintro e w' ⟨rfl, d', g1, g2, g3, g4⟩)
   have HN : Hid (RotAt enc k w blk off d a m b (i - j) j d' w') := qH0 (HS.out.step g1 g2 g3 g4 (by omega) (by omega) hb (by omega) (by omega) (fun x => Stb.rot_gt _ (by omega) hij x) (by omega))
   clear g1 g2 g3 g4 hc
   go_roundw
   case measure => simp [intOf]; omega
   case rel => exact ⟨i - j, j, d', by (congr 1; omega), rfl, by omega, hj0, by omega, hj, HN⟩
end Go.Proofs.YtnpnfajgphpabaaGreat.Fls

namespace Go.Proofs.YtnpnfajgphpabaaGreat
set_option maxRecDepth 20000
def ancN (n : Nm) (k : Nat) : Nm := n.drop (n.length - k)
theorem qc4 {n : Nm} {k : Nat} (h : k ≤ n.length) : (ancN n k).length = k := by simp [ancN]; omega
theorem qkc {n : Nm} {k j : Nat} (h : j ≤ k) (hk : k ≤ n.length) : ancN (ancN n k) j = ancN n j := by
 unfold ancN
 rw [List.drop_drop, List.length_drop]; congr 1; omega
theorem qbX {a b : Nm} (h : sameN a b = true) (z : Nm) : underN a z = underN b z := by
 rw [Bool.eq_iff_iff, qa2, qa2, (qap _ _).1 h]
theorem qef {a b : Nm} (h : sameN a b = true) (n : Nm) : underN n a = underN n b := by
 rw [Bool.eq_iff_iff, qa2, qa2, (qap _ _).1 h]
theorem qfB (n : Nm) (k : Nat) : underN n (ancN n k) = true := by
 rw [qa2]
 exact ⟨(foldN n).take (n.length - k), by simp [ancN, foldN, List.map_drop]⟩
theorem qkI {w n : Nm} {k j : Nat} (h : underN w (ancN n k) = true) (hj : j ≤ k) (hk : k ≤ n.length) : underN w (ancN n j) = true := by
 refine qgm h ?_
 rw [← qkc hj hk]
 exact qfB _ _
theorem qiy {n z : Nm} (h : underN n z = true) : sameN (ancN n z.length) z = true := by
 obtain ⟨p, e⟩ := (qa2 _ _).1 h
 rw [qap]
 have hl : n.length = p.length + z.length := by have := congrArg List.length e; simpa [foldN] using this
 have : foldN (ancN n z.length) = (foldN n).drop p.length := by
  unfold ancN foldN
  rw [List.map_drop, show n.length - z.length = p.length by omega]
 rw [this, e, List.drop_left]
theorem qgh {n z : Nm} (h : sameN (ancN n z.length) z = true) : underN n z = true := by
 rw [← qef h]; exact qfB _ _
def deepF : Nat → Nm → Nm → Nat → Nat
 | 0, _, _, f => f
 | k + 1, n, w, f => if underN w (ancN n (f + 1)) then deepF k n w (f + 1) else f
def deepM (n w : Nm) (f : Nat) : Nat := deepF (n.length - f) n w f
def depthM (o : Nm) (rs : List Rc) (n : Nm) : Nat := rs.foldl (fun f r => deepM n r.owner f) o.length
theorem qeL : ∀ (k : Nat) (n w : Nm) (f : Nat), f + k = n.length → f ≤ deepF k n w f ∧ deepF k n w f ≤ n.length ∧ (deepF k n w f = f ∨ underN w (ancN n (deepF k n w f)) = true) ∧ ∀ s, s ≤ n.length → underN w (ancN n s) = true → s ≤ deepF k n w f
 | 0, n, w, f, h => ⟨qN0, by simp [deepF]; omega, .inl rfl, fun s hs _ => by simp [deepF]; omega⟩
 | k + 1, n, w, f, h => by
  unfold deepF
  by_cases hu : underN w (ancN n (f + 1)) = true
  ·rw [if_pos hu]
   obtain ⟨h1, h2, h3, h4⟩ := qeL k n w (f + 1) (by omega)
   refine ⟨by omega, h2, .inr ?_, h4⟩
   rcases h3 with e | e
   ·rw [e]; exact hu
   ·exact e
  ·rw [if_neg hu]
   refine ⟨qN0, by omega, .inl rfl, fun s hs hs2 => ?_⟩
   refine Nat.le_of_not_lt fun hlt => hu ?_
   exact qkI hs2 (by omega) hs
theorem qiD {n w : Nm} {f : Nat} (h : f ≤ n.length) : f ≤ deepM n w f ∧ deepM n w f ≤ n.length ∧ (deepM n w f = f ∨ underN w (ancN n (deepM n w f)) = true) ∧ ∀ s, s ≤ n.length → underN w (ancN n s) = true → s ≤ deepM n w f :=
 qeL _ n w f (by omega)
theorem qeg (n : Nm) : ∀ (rs : List Rc) (f : Nat), f ≤ n.length → f ≤ rs.foldl (fun f r => deepM n r.owner f) f ∧ rs.foldl (fun f r => deepM n r.owner f) f ≤ n.length ∧
 (rs.foldl (fun f r => deepM n r.owner f) f = f ∨ ∃ r ∈ rs, underN r.owner (ancN n (rs.foldl (fun f r => deepM n r.owner f) f)) = true) ∧ ∀ r ∈ rs, ∀ s, s ≤ n.length → underN r.owner (ancN n s) = true → s ≤ rs.foldl (fun f r => deepM n r.owner f) f
 | [], f, h => ⟨qN0, h, .inl rfl, fun r hr => absurd hr (by simp)⟩
 | x :: rs, f, h => by
  obtain ⟨d1, d2, d3, d4⟩ := qiD (w := x.owner) h
  obtain ⟨h1, h2, h3, h4⟩ := qeg n rs (deepM n x.owner f) d2
  rw [List.foldl_cons]
  refine ⟨by omega, h2, ?_, fun r hr s hs hu => ?_⟩
  ·rcases h3 with e | ⟨r, hr, e⟩
   ·rw [e]
    rcases d3 with e2 | e2
    ·exact .inl e2
    ·exact .inr ⟨x, by simp, e2⟩
   ·exact .inr ⟨r, by simp [hr], e⟩
  ·rcases List.mem_cons.1 hr with rfl | hr
   ·have := d4 s hs hu; omega
   ·exact h4 r hr s hs hu
theorem qdY {o n : Nm} (rs : List Rc) (h : o.length ≤ n.length) : o.length ≤ depthM o rs n ∧ depthM o rs n ≤ n.length ∧ (depthM o rs n = o.length ∨ ∃ r ∈ rs, underN r.owner (ancN n (depthM o rs n)) = true) ∧
 ∀ r ∈ rs, ∀ s, s ≤ n.length → underN r.owner (ancN n s) = true → s ≤ depthM o rs n := qeg n rs _ h
theorem qjf {o n : Nm} {rs : List Rc} (h : o.length ≤ n.length) {d : Nat} (h1 : o.length ≤ d) (h2 : d ≤ n.length) (h3 : d = o.length ∨ ∃ r ∈ rs, underN r.owner (ancN n d) = true) (h4 : ∀ r ∈ rs, ∀ s, s ≤ n.length → underN r.owner (ancN n s) = true → s ≤ d) : depthM o rs n = d := by
 obtain ⟨e1, e2, e3, e4⟩ := qdY rs h
 apply Nat.le_antisymm
 ·rcases e3 with e | ⟨r, hr, e⟩
  ·omega
  ·exact h4 r hr _ e2 e
 ·rcases h3 with e | ⟨r, hr, e⟩
  ·omega
  ·exact e4 r hr _ h2 e
def pointM (rs : List Rc) (n : Nm) : List Nat := (rs.filter fun r => decide (r.data.ty = 2) && underN n r.owner).map fun r => r.owner.length
def cutM (o : Nm) (rs : List Rc) (n : Nm) : Option Nat := if underN n o then (List.range' (o.length + 1) (n.length - o.length)).find? (fun s => (pointM rs n).contains s) else none
def whereM (o : Nm) (rs : List Rc) (n : Nm) : Int := if underN n o then (match cutM o rs n with | none => 1 | some s => if s = n.length then 2 else 3) else 0
theorem qdB {rs : List Rc} {n : Nm} {s : Nat} : (pointM rs n).contains s = rs.any fun r => decide (r.data.ty = 2) && underN n r.owner && decide (r.owner.length = s) := by
 rw [Bool.eq_iff_iff]
 simp only [pointM, List.contains_iff_mem, List.mem_map, List.mem_filter, List.any_eq_true, Bool.and_eq_true, decide_eq_true_eq]
 constructor
 ·rintro ⟨r, ⟨h1, h2, h3⟩, h4⟩; exact ⟨r, h1, ⟨h2, h3⟩, h4⟩
 ·rintro ⟨r, h1, ⟨h2, h3⟩, h4⟩; exact ⟨r, ⟨h1, h2, h3⟩, h4⟩
theorem qeQ {α : Type} {p q : α → Bool} : ∀ (l : List α), (∀ x ∈ l, p x = q x) → l.find? p = l.find? q
 | [], _ => rfl
 | x :: r, h => by
  rw [List.find?_cons, List.find?_cons, h x (by simp), qeQ r fun y hy => h y (by simp [hy])]
theorem qd0 {α : Type} {p : α → Bool} (a b : List α) : (a ++ b).find? p = (a.find? p).or (b.find? p) := by
 rw [List.find?_append]
theorem qd5 (a k m : Nat) (h : k ≤ m) : List.range' a m = List.range' a k ++ List.range' (a + k) (m - k) := by
 rw [List.range'_append_1]; congr 1; omega
theorem qfP {o : Nm} {rs : List Rc} {n : Nm} {s : Nat} (h : cutM o rs n = some s) : underN n o = true ∧ o.length < s ∧ s ≤ n.length := by
 unfold cutM at h
 by_cases hu : underN n o = true
 ·rw [if_pos hu] at h
  have := List.mem_of_find?_eq_some h
  rw [List.mem_range'_1] at this
  have hl := qeu hu
  exact ⟨hu, by omega, by omega⟩
 ·rw [if_neg hu] at h; cases h
theorem qc6 {a b : Rc} (h : qab a b = 0) : sameN a.owner b.owner = true := by
 have := (qaF a b).1 (qcO h)
 simp only [belR, belM, Bool.and_eq_true, decide_eq_true_eq] at this
 exact this.2
theorem qlr {a b : Rc} (h : qab a b = 0) : a.data.ty = b.data.ty := by
 have := (qaF a b).1 (qcO h)
 simp only [belR, belM, Bool.and_eq_true, decide_eq_true_eq] at this
 exact this.1
def AlikeZ (l m : List Rc) : Prop := (∀ x ∈ l, ∃ y ∈ m, qab y x = 0) ∧ ∀ x ∈ m, ∃ y ∈ l, qab y x = 0
theorem AlikeZ.any {l m : List Rc} (h : AlikeZ l m) {p : Rc → Bool} (hp : ∀ a b, qab a b = 0 → p a = p b) : l.any p = m.any p := by
 rw [Bool.eq_iff_iff, List.any_eq_true, List.any_eq_true]
 constructor
 ·rintro ⟨x, hx, e⟩; obtain ⟨y, hy, h1⟩ := h.1 x hx; exact ⟨y, hy, by rw [hp y x h1]; exact e⟩
 ·rintro ⟨x, hx, e⟩; obtain ⟨y, hy, h1⟩ := h.2 x hx; exact ⟨y, hy, by rw [hp y x h1]; exact e⟩
theorem AlikeZ.depth {l m : List Rc} (h : AlikeZ l m) {o n : Nm} (hl : o.length ≤ n.length) : depthM o l n = depthM o m n := by
 obtain ⟨e1, e2, e3, e4⟩ := qdY m hl
 refine qjf hl e1 e2 ?_ ?_
 ·rcases e3 with e | ⟨r, hr, e⟩
  ·exact .inl e
  ·obtain ⟨y, hy, h1⟩ := h.2 r hr
   exact .inr ⟨y, hy, by rw [qbX (qc6 h1)]; exact e⟩
 ·intro r hr s hs hu
  obtain ⟨y, hy, h1⟩ := h.1 r hr
  exact e4 y hy s hs (by rw [qbX (qc6 h1)]; exact hu)
theorem AlikeZ.cut {l m : List Rc} (h : AlikeZ l m) (o n : Nm) : cutM o l n = cutM o m n := by
 unfold cutM
 congr 1
 refine qeQ _ fun s _ => ?_
 rw [qdB, qdB]
 refine h.any fun a b hab => ?_
 rw [qlr hab, qef (qc6 hab), show a.owner.length = b.owner.length from by
  have := (qap _ _).1 (qc6 hab)
  have := congrArg List.length this
  simpa [foldN] using this]
theorem AlikeZ.where {l m : List Rc} (h : AlikeZ l m) (o n : Nm) : whereM o l n = whereM o m n := by
 unfold whereM; rw [h.cut]
def joinS (s : St) (r : Rc) : St := ⟨s.owner, s.ty, minT s.ttl r.ttl, s.data ++ [r.data]⟩
def newS (r : Rc) : St := ⟨r.owner, r.data.ty, r.ttl, [r.data]⟩
def hitS (s : St) (r : Rc) : Bool := sameN s.owner r.owner && decide (s.ty = r.data.ty)
def stepS (out : List St) (r : Rc) : List St := match out.getLast? with
 | some s => if hitS s r then out.dropLast ++ [joinS s r] else out ++ [newS r]
 | none => out ++ [newS r]
def qam (c : List Rc) : List St := c.foldl stepS []
theorem qbJ (pre : List St) (s : St) (r : Rc) : stepS (pre ++ [s]) r = if hitS s r then pre ++ [joinS s r] else pre ++ [s] ++ [newS r] := by
 unfold stepS
 simp
theorem qkg {s : St} {y r : Rc} (h1 : s.owner = y.owner) (h2 : s.ty = y.data.ty) : hitS s r = belR y r := by
 unfold hitS belR belM
 rw [h1, h2, qaR, Bool.and_comm]
 congr 1
 exact decide_eq_decide.2 ⟨Eq.symm, Eq.symm⟩
theorem qcF : ∀ (l : List Rc) (s : St), l.foldl joinS s = ⟨s.owner, s.ty, leastM s.ttl l, s.data ++ l.map Rc.data⟩
 | [], s => by simp [leastM]
 | x :: r, s => by
  rw [List.foldl_cons, qcF r]
  simp [joinS, leastM]
theorem qc1 : ∀ (n : Nat) (r : List Rc), r.length ≤ n → ∀ (pre : List St) (s : St) (y : Rc), s.owner = y.owner → s.ty = y.data.ty →
 r.foldl stepS (pre ++ [s]) = pre ++ (r.takeWhile (belR y)).foldl joinS s :: setsM (r.dropWhile (belR y))
 | 0, r, h, pre, s, y, h1, h2 => by
  obtain rfl : r = [] := List.eq_nil_of_length_eq_zero (by omega)
  simp [qa3]
 | n + 1, [], h, pre, s, y, h1, h2 => by simp [qa3]
 | n + 1, x :: r, h, pre, s, y, h1, h2 => by
  rw [List.foldl_cons, qbJ, qkg h1 h2]
  by_cases hb : belR y x = true
  ·rw [if_pos hb, qc1 n r (by simp at h; omega) pre (joinS s x) y h1 h2, List.takeWhile_cons_of_pos hb, List.dropWhile_cons_of_pos hb, List.foldl_cons]
  ·rw [if_neg hb, qc1 n r (by simp at h; omega) (pre ++ [s]) (newS x) x rfl rfl, List.takeWhile_cons_of_neg hb, List.dropWhile_cons_of_neg hb, qaM, qcF]
   simp [newS, stR]
theorem qeD (c : List Rc) : qam c = setsM c := by
 cases c with
 | nil => rfl
 | cons y r =>
  have h : qam (y :: r) = r.foldl stepS ([] ++ [newS y]) := rfl
  rw [h, qc1 r.length r (qN0) [] (newS y) y rfl rfl, qaM, qcF]
  simp [newS, stR]
theorem qcZ : ∀ (n : Nat) (c : List Rc), c.length ≤ n → ∀ y ∈ c, ∃ s ∈ setsM c, belM s.owner s.ty y = true
 | 0, c, h, y, hy => by
  obtain rfl : c = [] := List.eq_nil_of_length_eq_zero (by omega)
  cases hy
 | n + 1, [], h, y, hy => by cases hy
 | n + 1, x :: r, h, y, hy => by
  rw [qaM]
  by_cases hb : y = x ∨ y ∈ r.takeWhile (belR x)
  ·refine ⟨_, List.mem_cons_self, ?_⟩
   rcases hb with rfl | hb
   ·exact qcx y
   ·exact qcb r y hb
  ·have hd : y ∈ r.dropWhile (belR x) := by
    rcases List.mem_cons.1 hy with e | e
    ·exact absurd (.inl e) hb
    ·rw [← List.takeWhile_append_dropWhile (p := belR x) (l := r)] at e
     rcases List.mem_append.1 e with e | e
     ·exact absurd (.inr e) hb
     ·exact e
   have hl : (r.dropWhile (belR x)).length ≤ n := by
    have := (List.dropWhile_sublist (p := belR x) (l := r)).length_le
    simp at h; omega
   obtain ⟨s, hs, e⟩ := qcZ n _ hl y hd
   exact ⟨s, List.mem_cons_of_mem _ hs, e⟩
theorem qiP {a b : Nm} (h : sameN a b = true) (t : Int) (r : Rc) : belM a t r = belM b t r := by
 unfold belM
 congr 1
 rw [Bool.eq_iff_iff, qap, qap, (qap _ _).1 h]
theorem qkD (l : List Rc) (o : Nm) (t : Int) : ofM l o t = (setsM (canonM l)).find? fun s => decide (s.ty = t) && sameN s.owner o := by
 unfold ofM
 rw [qgi]
 cases hf : (setsM (canonM l)).find? fun s => decide (s.ty = t) && sameN s.owner o with
 | none =>
  have hn : (canonM l).filter (belM o t) = [] := by
   rw [List.filter_eq_nil_iff]
   intro y hy hb
   obtain ⟨s, hs, e⟩ := qcZ _ _ (qN0) y hy
   have := List.find?_eq_none.1 hf s hs
   refine this ?_
   simp only [belM, Bool.and_eq_true, decide_eq_true_eq] at hb e ⊢
   refine ⟨by rw [← e.1, hb.1], ?_⟩
   exact qa6 (by rw [qaR]; exact e.2) hb.2
  rw [hn]; rfl
 | some s =>
  have hs := List.mem_of_find?_eq_some hf
  have hp := List.find?_some hf
  simp only [Bool.and_eq_true, decide_eq_true_eq] at hp
  obtain ⟨y, r, e1, e2, e3⟩ := qbh _ _ (qN0) (qa1 l).up s hs
  have e4 : (canonM l).filter (belM o t) = y :: r := by
   rw [← e3]
   refine List.filter_congr fun x _ => ?_
   rw [hp.1, qiP hp.2]
  rw [e4, qiX, e1]; rfl
  intro z hz
  have hz' : z ∈ (canonM l).filter (belM s.owner s.ty) := by rw [e3]; exact List.mem_cons_of_mem _ hz
  have h2 := (List.mem_filter.1 hz').2
  rw [e1] at h2
  exact h2
end Go.Proofs.YtnpnfajgphpabaaGreat
namespace Go.Proofs.YtnpnfajgphpabaaGreat
set_option maxRecDepth 100000
set_option maxHeartbeats 2000000
open Go.RowKit Go.Shelf
theorem nm_len {W : World} {a : Option Addr} {n c : Nat} {xs : Nm} (h : NmAt W (.slice a n c) xs) : n = xs.length := by
 obtain ⟨a', c', e, -⟩ := nmAt_sl.1 h
 injection e with _ e _
 rw [e, List.length_map]
theorem nm_cap {W : World} {a : Option Addr} {n c : Nat} {xs : Nm} (h : NmAt W (.slice a n c) xs) : n ≤ c := by
 obtain ⟨a', n', c', e, h1, _⟩ := h.2
 cases e; exact h1
theorem nm_anc {W : World} {g off q c : Nat} {n : Nm} (h : NmAt W (.slice (some ⟨g, off, none⟩) q c) n) {s : Nat} (h1 : 1 ≤ s) (h2 : s ≤ q) : NmAt W (.slice (some ⟨g, off + (q - s), none⟩) s (c - (q - s))) (n.drop (q - s)) := by
 have hq := nm_len h
 have hc := nm_cap h
 have h0 := h.1
 subst hq
 have hd := qds h0 hc (n.length - s) (by omega) (c - (n.length - s))
 rw [if_neg (by omega), show n.length - (n.length - s) = s by omega] at hd
 exact ⟨hd, ⟨_, _, _, rfl, by omega, fun e => by cases e⟩⟩
theorem qeO {N : Nat} {p : List (Fin N)} {x : Fin N} (h : p ++ [x] <+: List.finRange N) : x.val = p.length ∧ ∀ j : Fin N, j.val < x.val → j ∈ p := by
 obtain ⟨t, ht⟩ := h
 have hx : (List.finRange N)[p.length]? = some x := by rw [← ht]; simp
 have hxv : x.val = p.length := by
  obtain ⟨h1, h2⟩ := List.getElem?_eq_some_iff.1 hx
  rw [← h2]; simp
 refine ⟨hxv, fun j hj => ?_⟩
 have h1 : (List.finRange N)[j.val]? = some j := by simp
 have h2 : (List.finRange N)[j.val]? = p[j.val]? := by
  rw [← ht, List.append_assoc, List.getElem?_append_left (by omega)]
 rw [h2] at h1
 exact List.mem_of_getElem? h1
def dnV {N : Nat} (g off len c least : Nat) (x : Fin N) : Array Value := #[.slice (some ⟨g, off + (len - (least + x.val)), none⟩) (least + x.val) (c - (len - (least + x.val)))]
theorem qf8 (least : Nat) (a : Option Addr) (n c : Nat) (w : World) :
 Calls Tryz.prog 99 #[.int .i64 (least : Int), .slice a n c] w fun e w' => e = .returned (.func (.func 114) #[] #[.pointer (some ⟨w.heap.size, 0, none⟩), .pointer (some ⟨w.heap.size + 1, 0, none⟩)]) ∧ w' = (w.alloc (.cells #[.int .i64 (least : Int)] 3)).alloc (.cells #[.slice a n c] 23) := by
 go_enter Tryz.func99, Tryz.ntmps99
 go_wp2
 go_ret
 exact ⟨rfl, rfl⟩
section
attribute [local go_sem] Oper.semAt_some
theorem qgu (n : Nat) (hn : 1 ≤ n) (l b1 b2 : Nat) (a : Option Addr) (g off len c least N : Nat) (hN : N = len + 1 - least) (hle : 1 ≤ least) (ha : N = 0 ∨ a = some ⟨g, off, none⟩) (hc : len ≤ c) (hs : len ≤ 1048576) (hs2 : least ≤ 1048577) (J Jx : List (Fin N) → World → Prop)
 (hY : ∀ pre x W, J pre W → pre.length < N → YieldAt Fence.wide (n - 1) Tryz.prog l (dnV g off len c least x) W fun e W' =>
   (e = .returned (.bool true) ∧ J (pre ++ [x]) W' ∧ KeepB b2 W W') ∨ (e = .returned (.bool false) ∧ Jx (pre ++ [x]) W'))
 (W : World) (hc1 : W.cell? ⟨b1, 0, none⟩ = some (.int .i64 (least : Int))) (hc2 : W.cell? ⟨b2, 0, none⟩ = some (.slice a len c)) (h0 : J [] W) :
 CallsIn Fence.wide n Tryz.prog 114 #[.func (.yield l) #[] #[], .pointer (some ⟨b1, 0, none⟩), .pointer (some ⟨b2, 0, none⟩)] W fun e W' => (∃ v, e = .returned v) ∧
  ((∃ ys, ys = List.finRange N ∧ J ys W') ∨ (∃ pre, pre <+: List.finRange N ∧ Jx pre W')) := by
 have HNN := qH0 hN; have HAA := qH0 ha
 clear hN ha
 refine callsIn_of_wp Tryz.func114 rfl trivial ?_ rfl
 simp only [Tryz.ntmps114, List.size_toArray, List.length_cons, List.length_nil, Nat.reduceAdd, Nat.reduceSub, Array.replicate_succ, Array.replicate_zero, List.push_toArray, List.append_toArray, List.nil_append, List.cons_append]
 gi_wp2
 gi_loopw [4] (fun i wr => ∃ k : Nat, k ≤ N ∧ i = .int .i64 ((least + k : Nat) : Int) ∧ J ((List.finRange N).take k) wr ∧ KeepB b2 W wr)
  (fun i _ => ((len : Int) + 1 - intOf i).toNat)
 case atStart => exact ⟨0, Nat.zero_le _, rfl, h0, KeepB.refl _ _⟩
 case round =>
  obtain ⟨k, hk, rfl, hJs, hnx⟩ := hrel
  obtain ⟨s, hs⟩ : ∃ s, least + k = s := ⟨_, rfl⟩
  have HS := qH0 hs
  rw [hs]
  clear hs
  have hcb : wr.cell? ⟨b2, 0, none⟩ = some (.slice a len c) := hnx.cell.trans hc2
  by_cases hlt : k < N
  ·have hsl : (s : Int) ≤ (len : Int) := by have := HS.out; have := HNN.out; omega
   have hs1 : 1 ≤ s := by have := HS.out; omega
   obtain rfl : a = some ⟨g, off, none⟩ := by
    rcases HAA.out with h | h
    ·omega
    ·exact h
   obtain ⟨d, hd⟩ : ∃ d, d + s = len := ⟨len - s, by omega⟩
   have hsub : (len : Int) - (s : Int) = (d : Int) := by omega
   have hdl : (d : Int) ≤ (len : Int) := by omega
   have hcd : ¬ c = d := by omega
   have hln : len - d = s := by omega
   obtain ⟨fn, tmps, assign, body, hy, hR⟩ := hY _ ⟨k, hlt⟩ wr hJs (by simp; omega)
   have hv : dnV g off len c least (⟨k, hlt⟩ : Fin N) = #[.slice (some ⟨g, off + d, none⟩) s (c - d)] := by
    unfold dnV
    simp only
    rw [HS.out, show len - s = d by omega]
   rw [hv] at hy
   have HD := qH0 hd
   clear hv hd
   gi_wp2
   refine hR.mono ?_
   rintro e W3 (⟨rfl, hJ3, hk3⟩ | ⟨rfl, hJx3⟩)
   ·gi_wp2
    go_roundw
    case rel => exact ⟨k + 1, by omega, by congr 1; have := HS.out; omega, by rw [qan hlt]; exact hJ3, hnx.trans hk3⟩
    case measure => simp [intOf]; omega
   ·gi_wp2
    refine bodyPost_ret (results_none rfl _ _ _) rfl ?_
    exact ⟨⟨_, rfl⟩, .inr ⟨_, by rw [← qan hlt]; exact List.take_prefix _ _, hJx3⟩⟩
  ·obtain rfl : k = N := by omega
   have hsl : ¬ (s : Int) ≤ (len : Int) := by have := HS.out; have := HNN.out; omega
   rw [List.take_of_length_le (by simp)] at hJs
   gi_wp2
   go_end0
   first
    | exact ⟨⟨_, rfl⟩, .inl hJs⟩
    | exact ⟨⟨_, rfl⟩, .inl ⟨_, rfl, hJs⟩⟩
theorem qfj (n : Nat) (hn : 1 ≤ n) (b1 b2 : Nat) (a : Option Addr) (g off len c least N : Nat) (hN : N = len + 1 - least) (hle : 1 ≤ least) (ha : N = 0 ∨ a = some ⟨g, off, none⟩) (hc : len ≤ c) (hs : len ≤ 1048576) (hs2 : least ≤ 1048577) (w : World) (h1 : b1 < w.heap.size) (h2 : b2 < w.heap.size)
 (hc1 : w.cell? ⟨b1, 0, none⟩ = some (.int .i64 (least : Int))) (hc2 : w.cell? ⟨b2, 0, none⟩ = some (.slice a len c)) :
 SeqStopsK Fence.wide n Tryz.prog 114 #[.pointer (some ⟨b1, 0, none⟩), .pointer (some ⟨b2, 0, none⟩)] (dnV (N := N) g off len c least) (KeepB b2) (fun ys => ys = List.finRange N) (fun pre => pre <+: List.finRange N) N w := fun l J Jx W hW _ _ hY h0 =>
 qgu n hn l b1 b2 a g off len c least N hN hle ha hc hs hs2 J Jx hY W ((hW.cell (p := ⟨b1, 0, none⟩) h1).trans hc1) ((hW.cell (p := ⟨b2, 0, none⟩) h2).trans hc2) h0
end
end Go.Proofs.YtnpnfajgphpabaaGreat
namespace Go.Proofs.YtnpnfajgphpabaaGreat
set_option maxRecDepth 100000
set_option maxHeartbeats 8000000
open Go.RowKit Go.Shelf
def RcArg (W : World) (cs : List Value) (r : Rc) : Prop :=
 ∃ vo vn vu vt vr, cs = [vo, .int .u32 (r.ttl : Int), .int .i64 r.data.ty, vn, vu, vt, vr] ∧ NmArg W vo r.owner ∧ DatArg W (.agg #[.int .i64 r.data.ty, vn, vu, vt, vr]) r.data ∧ r.ttl < 2 ^ 32
theorem RcArg.rcAt {W : World} {cs : List Value} {r : Rc} (h : RcArg W cs r) : RcAt W cs r := by
 obtain ⟨vo, vn, vu, vt, vr, e, h1, h2, _⟩ := h
 exact ⟨vo, vn, vu, vt, vr, e, h1.1, h2.1⟩
def fewR (r : Rc) : Bool := fewN r.owner && fewD r.data
theorem RcArg.ok {W : World} {cs : List Value} {r : Rc} (h : RcArg W cs r) (hf : fewR r = true) : RcOK r := by
 obtain ⟨vo, vn, vu, vt, vr, e, h1, h2, h3⟩ := h
 simp only [fewR, Bool.and_eq_true] at hf
 exact ⟨qdS hf.1, h3, qlb h2 hf.2⟩
def fewRs (l : List Rc) : Bool := decide (l.length ≤ 60) && l.all fewR
theorem qkj {l : List Rc} {k : Nat} (h : k < l.length) : (l.drop k).all fewR = (fewR l[k] && (l.drop (k + 1)).all fewR) := by
 rw [List.drop_eq_getElem_cons h]; rfl
theorem qjM (v : Value) (css : List (List Value)) (l : List Rc) (w0 w : World) (hA : SlK w0 v css) (hR : css.length = l.length ∧ ∀ i (h1 : i < css.length) (h2 : i < l.length), RcArg w0 css[i] l[i]) (hwz : Below w0.heap.size w0 w) :
 Calls Tryz.prog 42 #[v] w fun e w' => e = .returned (.bool (fewRs l)) ∧ Below w.heap.size w w' := by
 obtain ⟨a, c, rfl, hc1, -, -⟩ := id hA
 obtain ⟨n, hn⟩ : ∃ n, css.length = n := ⟨_, rfl⟩
 rw [hn] at hA hc1 ⊢
 have HA := qH0 hA; have HR := qH0 hR; have HWZ := qH0 hwz; have HLN := qH0 hn
 have HLL := qH0 (show l.length = n by rw [← hn]; exact hR.1.symm)
 obtain ⟨res, hres⟩ : ∃ r, fewRs l = r := ⟨_, rfl⟩
 rw [hres]
 have HRES := qH0 hres
 clear hA hR hwz hn hres
 by_cases h60 : 60 < n
 ·have h60z : (60 : Int) < (n : Int) := by omega
  have HE : Hid (res = false) := qH0 (by
   rw [← HRES.out]; unfold fewRs
   rw [decide_eq_false (by have := HLL.out; omega)]; rfl)
  go_enter Tryz.func42, Tryz.ntmps42
  go_wp2
  go_ret
  exact ⟨by rw [HE.out]; rfl, qL0⟩
 ·have h60z : ¬ (60 : Int) < (n : Int) := by omega
  have HE0 : Hid (res = l.all fewR) := qH0 (by
   rw [← HRES.out]; unfold fewRs
   rw [decide_eq_true (by have := HLL.out; omega)]; rfl)
  go_enter Tryz.func42, Tryz.ntmps42
  go_wp2
  go_loopw [3] (fun vi wr => ∃ (k : Nat), vi = .int .i64 k ∧ k ≤ n ∧ Hid (res = (l.drop k).all fewR) ∧ Hid (Below w.heap.size w wr)) (fun vi _ => n - (intOf vi).toNat)
  case atStart => exact ⟨0, rfl, Nat.zero_le _, qH0 HE0.out, qH0 (qL0)⟩
  case round =>
   obtain ⟨k, rfl, hk, HC, HB⟩ := hrel
   by_cases hlt : k < n
   ·have hltz : (k : Int) < (n : Int) := by omega
    have hk1 : k < css.length := by have := HLN.out; omega
    have hk2 : k < l.length := by have := HLL.out; omega
    have hck : ∀ cs ∈ css, cs.length = 7 := fun cs hc => by
     obtain ⟨i, hi, rfl⟩ := List.mem_iff_getElem.1 hc
     exact (HR.out.2 i hi (by have := HR.out.1; omega)).rcAt.len
    obtain ⟨b, off, rfl, hb, hel⟩ := HA.out.elem hck (by omega)
    have hbz : Below w0.heap.size w0 wr := qB0 HWZ.out HB.out
    have h0 := HR.out.2 k hk1 hk2
    have hst := qkj hk2
    obtain ⟨r, hr⟩ : ∃ r, l[k]'hk2 = r := ⟨_, rfl⟩
    rw [hr] at h0 hst
    clear hr
    obtain ⟨⟨p0, q0, r0⟩, ⟨p3, q3, r3⟩, ⟨p4, q4, r4⟩, ⟨p5, q5, r5⟩, ⟨p6, q6, r6⟩, e0⟩ := h0.rcAt.shape
    simp only at e0
    obtain ⟨c0, c1, c2, c3, c4, c5, c6⟩ := hel k hk1 _ _ _ _ _ _ _ e0 wr hbz
    have HEL := qH0 (fun W hb => hel k hk1 _ _ _ _ _ _ _ e0 W hb)
    rw [e0] at h0
    obtain ⟨_, _, _, _, _, e5, g1, g2, _⟩ := h0
    simp only [List.cons.injEq, and_true, true_and] at e5
    obtain ⟨rfl, rfl, rfl, rfl, rfl⟩ := e5
    obtain ⟨fn1, hf1⟩ : ∃ b, fewN r.owner = b := ⟨_, rfl⟩
    obtain ⟨fn2, hf2⟩ : ∃ b, fewD r.data = b := ⟨_, rfl⟩
    have hkf := kn_Few _ r.owner _ hf1 w0 wr g1 (g1.1.below hbz)
    have HDF := qH0 (fun W (hb : Below w0.heap.size w0 W) => qkL _ r.data W ⟨g2.1.below hb, g2.2⟩)
    rw [hf2] at HDF
    have HC2 : Hid (res = ((fn1 && fn2) && (l.drop (k + 1)).all fewR)) := qH0 (by rw [HC.out, hst]; unfold fewR; rw [hf1, hf2])
    have HBZ := qH0 hbz
    clear hst hf1 hf2 g1 g2 hbz hel e0 hck HC hk1 hk2
    cases fn1
    ·have HE : Hid (res = false) := qH0 (by rw [HC2.out]; rfl)
     clear HC2
     go_wp2_with fail
     refine hkf.mono ?_
     rintro e w2 ⟨rfl, hb2⟩
     have HB2 := qH0 (qB0 HB.out hb2)
     clear hb2 hkf
     go_wp2
     go_ret
     exact ⟨by rw [HE.out]; rfl, HB2.out⟩
    ·go_wp2_with fail
     refine hkf.mono ?_
     rintro e w2 ⟨rfl, hb2⟩
     have HB2 := qH0 (qB0 HB.out hb2)
     have hb0 : Below w0.heap.size w0 w2 := qB0 HBZ.out hb2
     obtain ⟨d0, d1, d2, d3, d4, d5, d6⟩ := HEL.out w2 hb0
     have hdf := HDF.out w2 hb0
     clear hb2 hkf hb0 c0 c1 c2 c3 c4 c5 c6 HEL HDF
     go_wp2_with fail
     refine hdf.mono ?_
     rintro e w3 ⟨rfl, hb3⟩
     have HB3 := qH0 (qB0 HB2.out hb3)
     clear hb3 hdf d0 d1 d2 d3 d4 d5 d6
     cases fn2
     ·have HE : Hid (res = false) := qH0 (by rw [HC2.out]; rfl)
      clear HC2
      go_wp2
      go_ret
      exact ⟨by rw [HE.out]; rfl, HB3.out⟩
     ·have HE : Hid (res = (l.drop (k + 1)).all fewR) := qH0 (by rw [HC2.out]; rfl)
      clear HC2
      go_wp2
      go_roundw
      case measure => simp [intOf]; omega
      case rel => exact ⟨k + 1, by go_num, by omega, HE, HB3⟩
   ·obtain rfl : k = n := by omega
    have HE : Hid (res = true) := qH0 (by
     rw [HC.out, List.drop_of_length_le (by have := HLL.out; omega)]; rfl)
    clear HC
    go_wp2
    go_ret
    exact ⟨by rw [HE.out]; rfl, HB.out⟩
end Go.Proofs.YtnpnfajgphpabaaGreat
namespace Go.Proofs.YtnpnfajgphpabaaGreat
set_option maxRecDepth 20000
open Go Go.ChangeShapes Go.WideShapes Go.ChangeAt Go.RowKit Go.Shelf
theorem sl_row {W : World} {x : Addr} {l c : Nat} (f : Nat → Value) (hl : l ≤ c) (hcell : ∀ i, i < c → W.cell? (x.add i) = some (f i)) : SlAt W (.slice (some x) l c) ((List.range l).map f) := by
 refine ⟨some x, c, by simp, by simpa using hl, by simp, ?_⟩
 by_cases h0 : l = 0
 ·subst h0; left; simp
 ·right
  obtain ⟨b, off, spot⟩ := x
  have hspot : spot = none := by simpa [Addr.add] using World.cell?_spot (hcell 0 (by omega))
  subst hspot
  have hb : b < W.heap.size := by
   have h := hcell 0 (by omega)
   exact World.block_lt_of_cell? W _ (by simpa [Addr.add] using h : W.cell? ⟨b, off, none⟩ = some (f 0))
  refine ⟨b, off, rfl, hb, fun j hj => ?_⟩
  rw [List.length_map, List.length_range] at hj
  rw [← Go.WideShapes.add_plain, hcell j (by omega)]
  simp
theorem qgS {W : World} {k : IntKind} {x : Addr} {l c : Nat} {zs : List Int} (hl : l ≤ c) (hz : zs.length = c) (hcell : ∀ i, i < zs.length → W.cell? (x.add i) = some (.int k (zs.getD i 0))) : SlAt W (.slice (some x) l c) ((zs.take l).map fun z => .int k z) := by
 have h := sl_row (fun i => Value.int k (zs.getD i 0)) hl (fun i hi => hcell i (by omega))
 have e : (List.range l).map (fun i => Value.int k (zs.getD i 0)) = (zs.take l).map fun z => Value.int k z := by
  apply List.ext_getElem
  ·simp; omega
  ·intro i h1 h2
   simp only [List.length_map, List.length_range] at h1
   have : i < zs.length := by omega
   simp [List.getD, this]
 rwa [e] at h
variable {H : Type} {enc : TypeId × Value → H} {W : World}
theorem cells3 : Tryz.prog.cellsOf 3 = 1 ∧ Tryz.prog.cellsOf 40 = 1 ∧ Tryz.prog.cellsOf 41 = 1 ∧ Tryz.prog.cellsOf 22 = 1 ∧ Tryz.prog.cellsOf 42 = 1 ∧ Tryz.prog.cellsOf 44 = 5 ∧ Tryz.prog.cellsOf 23 = 1 ∧ Tryz.prog.cellsOf 9 = 1 ∧ Tryz.prog.cellsOf 45 = 1 ∧ Tryz.prog.cellsOf 5 = 1 :=
 ⟨by kernel_rfl, by kernel_rfl, by kernel_rfl, by kernel_rfl, by kernel_rfl, by kernel_rfl, by kernel_rfl, by kernel_rfl, by kernel_rfl, by kernel_rfl⟩
theorem qfr {t : TypeId} (ht : Tryz.prog.underlying t = some (.slice 9)) {fuel : Nat} {v : Value} {x : DataW H × List MemPlace} (hf : DataW.trod enc Tryz.prog W 0 (fun _ => true) true fuel t [v] = some x) : ∃ zs, NmArg W v zs := by
 rcases Go.ChangeShapes.open_strings ht Tryz.underlying9 (by kernel_rfl) hf with ⟨hcs, _⟩ | ⟨x, l, c, zs, hcs, _, hl, hm, hz, _, hcell, hwz⟩
 ·simp at hcs
  subst hcs
  exact ⟨[], qfC W⟩
 ·simp at hcs
  subst hcs
  exact ⟨_, qfA hl hm (by simpa using hz) hcell hwz⟩
theorem qkf {fuel : Nat} {v : Value} {x : DataW H × List MemPlace} (hf : DataW.trod enc Tryz.prog W 0 (fun _ => true) true fuel 40 [v] = some x) : ∃ ns : List Nm, NmsAt W v ns ∧ ∀ n ∈ ns, n.length ≤ maxLen ∧ ∀ y ∈ n, y.length ≤ maxLen := by
 rcases Go.Deep.open_slice1 Tryz.underlying40 (by kernel_rfl) hf with ⟨hcs, _⟩ | ⟨a, len, cap, m, n, V, D, Pl, hcs, _, hl, hm, hmm, _, hV⟩
 ·simp at hcs
  subst hcs
  exact ⟨[], NmsAt.nil W, by simp⟩
 ·simp at hcs
  subst hcs
  simp only [if_true] at hmm
  subst hmm
  obtain ⟨F, hF⟩ := Go.Deep.choose_lt (α := Nm) (p := fun i z => NmArg W (V i) z) (fun i hi => qfr Tryz.underlying23 (hV i hi).2)
  refine ⟨(List.range len).map F, ⟨(List.range len).map V, sl_row V hl (fun i hi => (hV i hi).1), by simp, fun j hj => ?_⟩, ?_⟩
  ·simp only [List.length_map, List.length_range] at hj
   simpa using (hF j (by omega)).1
  ·intro n hn
   obtain ⟨i, hi, rfl⟩ := List.mem_map.1 hn
   exact (hF i (by have := List.mem_range.1 hi; omega)).2
theorem wf_u32 {n : Int} (h : (Lit.int .u32 n).wf = true) : 0 ≤ n ∧ n < 2 ^ 32 := by
 simp [Lit.wf] at h
 have e1 : IntKind.u32.min = 0 := by decide
 have e2 : IntKind.u32.max = 4294967295 := by decide
 omega
theorem wf_u8 {n : Int} (h : (Lit.int .u8 n).wf = true) : 0 ≤ n ∧ n < 256 := by
 simp [Lit.wf] at h
 have e1 : IntKind.u8.min = 0 := by decide
 have e2 : IntKind.u8.max = 255 := by decide
 omega
theorem wf_i64 {n : Int} (h : (Lit.int .i64 n).wf = true) : -(2 ^ 63) ≤ n ∧ n < 2 ^ 63 := by
 simp [Lit.wf] at h
 have e1 : IntKind.i64.min = -9223372036854775808 := by decide
 have e2 : IntKind.i64.max = 9223372036854775807 := by decide
 omega
theorem qjG {fuel : Nat} {v : Value} {x : DataW H × List MemPlace} (hf : DataW.trod enc Tryz.prog W 0 (fun _ => true) true fuel 41 [v] = some x) : ∃ ns : List Nat, SlAt W v (ns.map u32V) ∧ ∀ n ∈ ns, n < 2 ^ 32 := by
 rcases open_ints Tryz.underlying41 Tryz.underlying45 (by kernel_rfl) hf with ⟨hcs, _⟩ | ⟨a, l, c, zs, hcs, _, hl, hm, hz, _, hcell, hw⟩
 ·simp at hcs
  subst hcs
  exact ⟨[], SlAt.nil W, by simp⟩
 ·simp at hcs
  subst hcs
  refine ⟨(zs.take l).map Int.toNat, ?_, ?_⟩
  ·have h := qgS hl (by simpa using hz) hcell
   have e : ((zs.take l).map Int.toNat).map u32V = (zs.take l).map fun z => Value.int .u32 z := by
    rw [List.map_map]
    apply List.map_congr_left
    intro z hz
    have := wf_u32 (hw z (List.mem_of_mem_take hz))
    show Value.int .u32 ((z.toNat : Nat) : Int) = _
    rw [Int.toNat_of_nonneg this.1]
   rw [e]; exact h
  ·intro n hn
   obtain ⟨z, hz, rfl⟩ := List.mem_map.1 hn
   have := wf_u32 (hw z (List.mem_of_mem_take hz))
   omega
theorem qkv {fuel : Nat} {v : Value} {x : DataW H × List MemPlace} (hf : DataW.trod enc Tryz.prog W 0 (fun _ => true) true fuel 42 [v] = some x) : ∃ ns : List UInt8, SlAt W v (ns.map bv) := by
 rcases open_ints Tryz.underlying42 Tryz.underlying5 (by kernel_rfl) hf with ⟨hcs, _⟩ | ⟨a, l, c, zs, hcs, _, hl, hm, hz, _, hcell, hw⟩
 ·simp at hcs
  subst hcs
  exact ⟨[], SlAt.nil W⟩
 ·simp at hcs
  subst hcs
  refine ⟨(zs.take l).map fun z => UInt8.ofNat z.toNat, ?_⟩
  have h := qgS hl (by simpa using hz) hcell
  have e : ((zs.take l).map fun z => UInt8.ofNat z.toNat).map bv = (zs.take l).map fun z => Value.int .u8 z := by
   rw [List.map_map]
   apply List.map_congr_left
   intro z hz
   have := wf_u8 (hw z (List.mem_of_mem_take hz))
   show Value.int .u8 ((UInt8.ofNat z.toNat).toNat : Int) = _
   congr 1
   simp
   omega
  rw [e]; exact h
theorem qjF {fuel : Nat} {cs : List Value} {x : DataW H × List MemPlace} (hf : DataW.trod enc Tryz.prog W 0 (fun _ => true) true fuel 44 cs = some x) : ∃ d, DatArg W (.agg cs.toArray) d := by
 obtain ⟨k1, k2, k3, k4, k5, k6, _⟩ := cells3
 obtain ⟨xs, n, _, _, hl, hx, hfd⟩ := DataW.trod_struct Tryz.underlying44 hf
 rw [k6] at hl
 match cs, hl with
 | [c0, c1, c2, c3, c4], _ =>
 match xs, hx with
 | [y0, y1, y2, y3, y4], _ =>
 have h0 : DataW.trod enc Tryz.prog W 0 (fun _ => true) true n 3 (List.take (Tryz.prog.cellsOf 3) (List.drop 0 [c0, c1, c2, c3, c4])) = some y0 := hfd 0 _ rfl
 rw [k1] at h0
 replace h0 : DataW.trod enc Tryz.prog W 0 (fun _ => true) true n 3 [c0] = some y0 := h0
 have h1 : DataW.trod enc Tryz.prog W 0 (fun _ => true) true n 40 (List.take (Tryz.prog.cellsOf 40) (List.drop 1 [c0, c1, c2, c3, c4])) = some y1 := hfd 1 _ rfl
 rw [k2] at h1
 replace h1 : DataW.trod enc Tryz.prog W 0 (fun _ => true) true n 40 [c1] = some y1 := h1
 have h2 : DataW.trod enc Tryz.prog W 0 (fun _ => true) true n 41 (List.take (Tryz.prog.cellsOf 41) (List.drop 2 [c0, c1, c2, c3, c4])) = some y2 := hfd 2 _ rfl
 rw [k3] at h2
 replace h2 : DataW.trod enc Tryz.prog W 0 (fun _ => true) true n 41 [c2] = some y2 := h2
 have h3 : DataW.trod enc Tryz.prog W 0 (fun _ => true) true n 22 (List.take (Tryz.prog.cellsOf 22) (List.drop 3 [c0, c1, c2, c3, c4])) = some y3 := hfd 3 _ rfl
 rw [k4] at h3
 replace h3 : DataW.trod enc Tryz.prog W 0 (fun _ => true) true n 22 [c3] = some y3 := h3
 have h4 : DataW.trod enc Tryz.prog W 0 (fun _ => true) true n 42 (List.take (Tryz.prog.cellsOf 42) (List.drop 4 [c0, c1, c2, c3, c4])) = some y4 := hfd 4 _ rfl
 rw [k5] at h4
 replace h4 : DataW.trod enc Tryz.prog W 0 (fun _ => true) true n 42 [c4] = some y4 := h4
 obtain ⟨ty, e0, _, w0⟩ := DataW.trod_int Tryz.underlying3 h0
 obtain ⟨ns, n1, n2⟩ := qkf h1
 obtain ⟨us, u1, u2⟩ := qjG h2
 obtain ⟨ts, t1⟩ := qfr Tryz.underlying22 h3
 obtain ⟨rs, r1⟩ := qkv h4
 simp at e0
 subst e0
 exact ⟨⟨ty, ns, us, ts, rs⟩, ⟨c1, c2, c3, c4, rfl, n1, u1, t1.1, r1⟩, wf_i64 w0, n2, u2, t1.2.2⟩
theorem qgU : Tryz.prog.cellsOf 47 = 7 := by kernel_rfl
theorem qjS {fuel : Nat} {cs : List Value} {x : DataW H × List MemPlace} (hf : DataW.trod enc Tryz.prog W 0 (fun _ => true) true fuel 47 cs = some x) : ∃ r, RcArg W cs r := by
 obtain ⟨k1, k2, k3, k4, k5, k6, k7, k8, k9, _⟩ := cells3
 obtain ⟨xs, n, _, _, hl, hx, hfd⟩ := DataW.trod_struct Tryz.underlying47 hf
 rw [qgU] at hl
 match cs, hl with
 | [c0, c1, c2, c3, c4, c5, c6], _ =>
 match xs, hx with
 | [y0, y1, y2], _ =>
 have h0 : DataW.trod enc Tryz.prog W 0 (fun _ => true) true n 23 (List.take (Tryz.prog.cellsOf 23) (List.drop 0 [c0, c1, c2, c3, c4, c5, c6])) = some y0 := hfd 0 _ rfl
 rw [k7] at h0
 replace h0 : DataW.trod enc Tryz.prog W 0 (fun _ => true) true n 23 [c0] = some y0 := h0
 have h1 : DataW.trod enc Tryz.prog W 0 (fun _ => true) true n 45 (List.take (Tryz.prog.cellsOf 45) (List.drop 1 [c0, c1, c2, c3, c4, c5, c6])) = some y1 := hfd 1 _ rfl
 rw [k9] at h1
 replace h1 : DataW.trod enc Tryz.prog W 0 (fun _ => true) true n 45 [c1] = some y1 := h1
 have h2 : DataW.trod enc Tryz.prog W 0 (fun _ => true) true n 44 (List.take (Tryz.prog.cellsOf 44) (List.drop 2 [c0, c1, c2, c3, c4, c5, c6])) = some y2 := hfd 2 _ rfl
 rw [k6] at h2
 replace h2 : DataW.trod enc Tryz.prog W 0 (fun _ => true) true n 44 [c2, c3, c4, c5, c6] = some y2 := h2
 obtain ⟨o, o1⟩ := qfr Tryz.underlying23 h0
 obtain ⟨t, e1, _, w1⟩ := DataW.trod_int Tryz.underlying45 h1
 obtain ⟨d, hd⟩ := qjF h2
 simp at e1
 subst e1
 have ht := wf_u32 w1
 obtain ⟨vn, vu, vt, vr, e, hh⟩ := hd.1
 have e' : [c2, c3, c4, c5, c6] = [Value.int .i64 d.ty, vn, vu, vt, vr] := by
  have : [c2, c3, c4, c5, c6].toArray = #[Value.int .i64 d.ty, vn, vu, vt, vr] := by injection e
  exact congrArg Array.toList this
 simp only [List.cons.injEq, and_true] at e'
 obtain ⟨rfl, rfl, rfl, rfl, rfl⟩ := e'
 refine ⟨⟨o, t.toNat, d⟩, _, _, _, _, _, ?_, o1, hd, by show t.toNat < 2 ^ 32; omega⟩
 show [_, Value.int .u32 t, _, _, _, _, _] = [_, Value.int .u32 ((t.toNat : Nat) : Int), _, _, _, _, _]
 rw [Int.toNat_of_nonneg ht.1]
theorem qeS (k : Nat) (k0 : 0 < k) : ∀ (l : List (List Value)), (∀ cs ∈ l, cs.length = k) → ∀ (t : Nat) (u : Value), l.flatten[t]? = some u → ∃ h : t / k < l.length, (l[t / k])[t % k]? = some u
 | [], _, t, u, h => by simp at h
 | x :: r, hk, t, u, h => by
  have hx := hk x (by simp)
  rw [List.flatten_cons] at h
  by_cases ht : t < k
  ·rw [List.getElem?_append_left (by omega)] at h
   have e0 : t / k = 0 := Nat.div_eq_of_lt ht
   have e1 : t % k = t := Nat.mod_eq_of_lt ht
   refine ⟨by rw [e0]; simp, ?_⟩
   simp only [e0, e1, List.getElem_cons_zero]
   exact h
  ·rw [List.getElem?_append_right (by omega), hx] at h
   obtain ⟨h1, h2⟩ := qeS k k0 r (fun cs hc => hk cs (by simp [hc])) (t - k) u h
   have e0 : t / k = (t - k) / k + 1 := by
    rw [Nat.div_eq_sub_div k0 (by omega)]
   have e1 : t % k = (t - k) % k := by
    rw [Nat.mod_eq_sub_mod (by omega)]
   refine ⟨by rw [e0]; simpa using h1, ?_⟩
   simp only [e0, e1, List.getElem_cons_succ]
   exact h2
instance inhRec : Inhabited (List Value × Rc) := ⟨([], Rc.none)⟩
theorem qjp {fuel : Nat} {v : Value} {x : DataW H × List MemPlace} (hf : DataW.trod enc Tryz.prog W 0 (fun _ => true) true fuel 24 [v] = some x) :
 ∃ (css : List (List Value)) (l : List Rc), SlK W v css ∧ css.length = l.length ∧ ∀ i (h1 : i < css.length) (h2 : i < l.length), RcArg W css[i] l[i] := by
 rcases Go.Deep.open_slice Tryz.underlying24 hf with ⟨hcs, _⟩ | ⟨a, len, cap, m, n, D, Pl, hcs, _, hl, hm, hmm, _, hV⟩
 ·simp at hcs
  subst hcs
  exact ⟨[], [], SlK.nil W, rfl, fun i h1 => absurd h1 (Nat.not_lt_zero _)⟩
 ·simp at hcs
  subst hcs
  simp only [if_true] at hmm
  subst hmm
  rw [qgU] at hV
  obtain ⟨F, hF⟩ := Go.Deep.choose_lt (α := List Value × Rc) (p := fun i z => W.cells? 0 (a.add (i * 7)) 7 = some z.1 ∧ RcArg W z.1 z.2) (fun i hi => by
   obtain ⟨cs', h1, h2⟩ := hV i hi
   obtain ⟨r, hr⟩ := qjS h2
   exact ⟨(cs', r), h1, hr⟩)
  have hlen : ∀ i, i < len → (F i).1.length = 7 := fun i hi => (World.cells?_some (hF i (by omega)).1).2.1
  refine ⟨(List.range len).map fun i => (F i).1, (List.range len).map fun i => (F i).2, ⟨some a, m, by simp, by simpa using hl, (fun e => by cases e), ?_⟩, by simp, fun i h1 h2 => ?_⟩
  ·by_cases h0 : len = 0
   ·subst h0; left; rfl
   ·right
    obtain ⟨b, off, spot⟩ := a
    have hc0 := (World.cells?_some (hF 0 (by omega)).1).2.2 0 (by omega)
    rw [List.getElem?_eq_getElem (by rw [hlen 0 (by omega)]; omega)] at hc0
    have hspot : spot = none := by simpa [Addr.add] using World.cell?_spot hc0
    subst hspot
    have hb : b < W.heap.size := World.block_lt_of_cell? W _ (by simpa [Addr.add] using hc0 : W.cell? ⟨b, off, none⟩ = some _)
    refine ⟨b, off, rfl, hb, fun j u hj => ?_⟩
    obtain ⟨h1, h2⟩ := qeS 7 (by omega) _ (fun cs hc => by
     obtain ⟨i, hi, rfl⟩ := List.mem_map.1 hc
     exact hlen i (List.mem_range.1 hi)) j u hj
    have hi : j / 7 < len := by simpa using h1
    rw [List.getElem_map, List.getElem_range] at h2
    have hd : j % 7 < 7 := Nat.mod_lt _ (by omega)
    have hc := (World.cells?_some (hF (j / 7) (by omega)).1).2.2 (j % 7) hd
    rw [h2] at hc
    rw [Addr.add_lit, Addr.add_lit, show off + j / 7 * 7 + j % 7 = off + j by omega] at hc
    exact hc
  ·simp only [List.length_map, List.length_range] at h1
   simpa using (hF i (by omega)).2
end Go.Proofs.YtnpnfajgphpabaaGreat
